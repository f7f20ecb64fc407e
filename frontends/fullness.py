"""How full the buffer can be, whatever comes, and how full a row of yields makes it."""

from frontends.busy import busy_behind, busy_by_marks
from frontends.frames import most_bytes


def margin_of(settings):
    """Gives the most bytes that any row of yields can bring into the buffer, its depth aside."""
    greatest = most_bytes(len(settings.channels))
    if greatest <= settings.rate:
        return greatest
    above_rate = max(0, settings.high_mark - settings.rate)
    unseen = settings.ahead + settings.delay
    return greatest + above_rate + (greatest - settings.rate) * unseen


def worst_row(settings):
    """Gives the row of yields that makes just the margin."""
    greatest = most_bytes(len(settings.channels))
    if greatest <= settings.rate:
        return [greatest]
    unseen = [greatest] * (settings.ahead + settings.delay + 1)
    if settings.high_mark <= greatest:
        return [settings.high_mark] + unseen
    # One byte more than goes out at a time, up to the high mark, where it isn't busy yet.
    rising = [settings.rate + 1] * (settings.high_mark - greatest)
    return [greatest] + rising + unseen


def play_row(settings, yields):
    """Gives the most in the buffer by a row of yields, how many found it busy, how much is in it at the end."""
    late = settings.ahead + settings.delay + 1
    waiting = 0
    most = 0
    busies = []
    stopped = 0
    for now, coming in enumerate(yields):
        waiting -= min(settings.rate, waiting)
        if busy_behind(busies, now - late) == 1:
            stopped += 1
        else:
            waiting += coming
        busies.append(busy_by_marks(settings, waiting, busy_behind(busies, now - 1)))
        most = max(most, waiting)
    return [most, stopped, waiting]
