"""The calls: what each is handed, when it is refused, and what it answers."""

from frontends.frames import most_bytes
from frontends.fullness import margin_of
from frontends.readout import DEAD_BY_BUSY, DEAD_BY_GAP, NOT_ASKED, TAKEN, WENT_IN, Readout
from frontends.settings import MOST_CHANNELS, Fault, Settings, one_text, read_settings

OUT_OF_RANGE = -1
TEXT_HAS_FAULT = -3
TOO_MANY_CROSSINGS = -4
NOT_THERE = -5
NOT_ONE_EACH = -6
NOT_TAKEN = -7
NOT_KNOWN = -8

LONGEST_TEXT = 1000
GREATEST_BYTE = 255
GREATEST_SAMPLE = 4095
GREATEST_CROSSING = 4095
MOST_CROSSINGS = 400
MOST_OFTEN = 100
FARTHEST_BYTE = 20000
MOST_BYTES_ASKED = 300


class FrontEnd:
    """The object that a list's calls are on; its readout holds the settings too."""

    def __init__(self):
        self.readout = Readout(Settings([], {}))


def row_fits(row, longest, greatest):
    return len(row) <= longest and all([0 <= number <= greatest for number in row])


def samples_fit(samples):
    return row_fits(samples, MOST_CHANNELS, GREATEST_SAMPLE)


def refused_crossings(readout, often, samples):
    """Gives the refusal that is due for so many crossings with these samples, 0 if none is."""
    if len(samples) != len(readout.settings.channels):
        return NOT_ONE_EACH
    if readout.crossings() + often > MOST_CROSSINGS:
        return TOO_MANY_CROSSINGS
    return 0


def refused_channel(readout, channel):
    """Gives the refusal that is due for a channel's number, 0 if none is."""
    if not 1 <= channel <= MOST_CHANNELS:
        return OUT_OF_RANGE
    if channel > len(readout.settings.channels):
        return NOT_THERE
    return 0


def stretches_of(marks):
    """Gives how many stretches of true marks there are, then where each begins and ends."""
    edges = []
    inside = False
    for place, mark in enumerate(marks):
        if mark != inside:
            edges.append(place)
            inside = mark
    if inside:
        edges.append(len(marks))
    return [len(edges) // 2] + edges


def tell_settings(front, numbers, text):
    if not row_fits(text, LONGEST_TEXT, GREATEST_BYTE):
        return [OUT_OF_RANGE]
    try:
        settings = read_settings(text)
    except Fault:
        return [TEXT_HAS_FAULT]
    front.readout = Readout(settings)
    channels = len(settings.channels)
    return [0, channels, most_bytes(channels)]


def check_text(front, numbers, text):
    if not row_fits(text, LONGEST_TEXT, GREATEST_BYTE):
        return [OUT_OF_RANGE]
    try:
        settings = read_settings(text)
    except Fault as fault:
        return [0, 1, fault.kind, fault.place]
    return [0, 0, len(settings.channels)]


def print_settings(front, numbers, row):
    return [0] + one_text(front.readout.settings)


def cross_once(front, numbers, samples):
    asked = numbers[0]
    if not 0 <= asked <= 1 or not samples_fit(samples):
        return [OUT_OF_RANGE]
    readout = front.readout
    refusal = refused_crossings(readout, 1, samples)
    if refusal < 0:
        return [refusal]
    readout.come(asked, samples)
    return [0, readout.fates[-1], readout.waiting(), readout.busies[-1]]


def cross_often(front, numbers, samples):
    often = numbers[0]
    asked = numbers[1]
    if not 1 <= often <= MOST_OFTEN or not 0 <= asked <= 1 or not samples_fit(samples):
        return [OUT_OF_RANGE]
    readout = front.readout
    refusal = refused_crossings(readout, often, samples)
    if refusal < 0:
        return [refusal]
    readout.come_often(often, asked, samples)
    return [0, readout.fates[-often:].count(TAKEN), readout.waiting(), readout.busies[-1]]


def show_wire(front, numbers, row):
    skipped = numbers[0]
    most = numbers[1]
    if not 0 <= skipped <= FARTHEST_BYTE or not 0 <= most <= MOST_BYTES_ASKED:
        return [OUT_OF_RANGE]
    readout = front.readout
    shown = readout.sent[skipped:min(skipped + most, readout.gone)]
    return [0, len(shown)] + shown


def show_kept(front, numbers, row):
    channel = numbers[0]
    readout = front.readout
    refusal = refused_channel(readout, channel)
    if refusal < 0:
        return [refusal]
    return [0] + stretches_of([readout.is_kept(crossing, channel - 1) for crossing in range(readout.known())])


def show_high(front, numbers, row):
    channel = numbers[0]
    readout = front.readout
    refusal = refused_channel(readout, channel)
    if refusal < 0:
        return [refusal]
    return [0] + stretches_of([highs[channel - 1] for highs in readout.highs])


def show_counts(front, numbers, row):
    readout = front.readout
    fates = readout.fates
    made = len(readout.frames)
    went_in = len([frame for frame in readout.frames.values() if frame[0] == WENT_IN])
    answer = [0, readout.crossings()]
    answer.extend([fates.count(fate) for fate in (NOT_ASKED, TAKEN, DEAD_BY_GAP, DEAD_BY_BUSY)])
    answer.extend([went_in, made - went_in, fates.count(TAKEN) - made])
    answer.extend([readout.gone, readout.waiting(), readout.most])
    return answer


def show_frame(front, numbers, row):
    crossing = numbers[0]
    readout = front.readout
    if not 0 <= crossing <= GREATEST_CROSSING:
        return [OUT_OF_RANGE]
    if crossing >= readout.crossings():
        return [NOT_THERE]
    if readout.fates[crossing] != TAKEN:
        return [NOT_TAKEN]
    if crossing >= readout.known():
        return [NOT_KNOWN]
    frame = readout.frames[crossing]
    return [0, frame[0]] + frame[1]


def show_margin(front, numbers, row):
    settings = front.readout.settings
    margin = margin_of(settings)
    return [0, margin, settings.depth, 1 if margin <= settings.depth else 0]


# By a call's number: how many whole numbers it has, whether a row stands behind them, and
# what answers it.
CALLS = {
    0: (0, True, tell_settings),
    1: (0, True, check_text),
    2: (0, False, print_settings),
    3: (1, True, cross_once),
    4: (2, True, cross_often),
    5: (2, False, show_wire),
    6: (1, False, show_kept),
    7: (1, False, show_high),
    8: (0, False, show_counts),
    9: (1, False, show_frame),
    10: (0, False, show_margin),
}


def numbers_due(call):
    return CALLS[call][0]


def has_row(call):
    return CALLS[call][1]


def answer_to(front, call, numbers, row):
    """Gives a call's answer, or its refusal alone; row is empty where the call has none."""
    handler = CALLS[call][2]
    return handler(front, numbers, row)
