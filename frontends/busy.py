"""Busy: 1 or 0 behind each crossing, by the buffer's marks, as it is found some crossings later."""


def busy_by_marks(settings, waiting, busy_before):
    """Tells whether it is busy with so many bytes in the buffer, behind a crossing."""
    if waiting > settings.high_mark:
        return 1
    if waiting <= settings.low_mark:
        return 0
    return busy_before


def busy_behind(busies, crossing):
    """Tells whether it was busy behind a crossing; below 0 there was none, and it wasn't."""
    return busies[crossing] if crossing >= 0 else 0
