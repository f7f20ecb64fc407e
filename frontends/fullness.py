"""How full the buffer can be, whatever comes."""

from frontends.frames import most_bytes


def margin_of(settings):
    """Gives the most bytes that any row of yields can bring into the buffer, its depth aside."""
    greatest = most_bytes(len(settings.channels))
    if greatest <= settings.rate:
        return greatest
    above_rate = max(0, settings.high_mark - settings.rate)
    unseen = settings.ahead + settings.delay
    return greatest + above_rate + (greatest - settings.rate) * unseen
