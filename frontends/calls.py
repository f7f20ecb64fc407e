"""The calls: what each is handed, when it is refused, and what it answers."""

from frontends.frames import check_of, frame_of, most_bytes
from frontends.fullness import margin_of, play_row, worst_row
from frontends.hearing import Hearing
from frontends.readout import DEAD_BY_BUSY, DEAD_BY_GAP, NOT_ASKED, TAKEN, WENT_IN, Readout
from frontends.settings import MOST_CHANNELS, Fault, Settings, one_text, read_settings
from frontends.telling import counted_pairs, lowest_terms, stretches_of

OUT_OF_RANGE = -1
TEXT_HAS_FAULT = -3
TOO_MANY_CROSSINGS = -4
NOT_THERE = -5
NOT_ONE_EACH = -6
NOT_TAKEN = -7
NOT_RISING = -7
NOT_KNOWN = -8
ABOVE_GREATEST = -9

LONGEST_TEXT = 1000
GREATEST_BYTE = 255
GREATEST_SAMPLE = 4095
GREATEST_CROSSING = 4095
MOST_CROSSINGS = 400
MOST_OFTEN = 100
FARTHEST_BYTE = 20000
MOST_BYTES_ASKED = 300
MOST_YIELDS = 500
GREATEST_YIELD = 100
MOST_BYTES_FED = 400
MOST_SIGNS = 100
GREATEST_SIGN = 127


class FrontEnd:
    """The object that a list's calls are on: what came and what was heard; the readout holds the settings too."""

    def __init__(self):
        self.readout = Readout(Settings([], {}))
        self.hearing = Hearing(0)


def row_fits(row, longest, greatest):
    return len(row) <= longest and all([0 <= number <= greatest for number in row])


def samples_fit(samples):
    return row_fits(samples, MOST_CHANNELS, GREATEST_SAMPLE)


def refused_crossings(readout, often, samples):
    """Gives the refusal that is due for so many crossings with these samples, 0 if none is."""
    if len(samples) != len(readout.settings.channels):
        return NOT_ONE_EACH
    if readout.crossings() + often > MOST_CROSSINGS:
        return TOO_MANY_CROSSINGS
    return 0


def refused_channel(readout, channel):
    """Gives the refusal that is due for a channel's number, 0 if none is."""
    if not 1 <= channel <= MOST_CHANNELS:
        return OUT_OF_RANGE
    if channel > len(readout.settings.channels):
        return NOT_THERE
    return 0


def pairs_fit(channels, samples):
    """Tells whether the two halves of a row of pairs are as told; an odd row has a channel too many."""
    if len(channels) != len(samples) or not samples_fit(samples):
        return False
    return all([1 <= channel <= MOST_CHANNELS for channel in channels])


def rises(row):
    return all([row[place] < row[place + 1] for place in range(len(row) - 1)])


def tell_settings(front, numbers, text):
    if not row_fits(text, LONGEST_TEXT, GREATEST_BYTE):
        return [OUT_OF_RANGE]
    try:
        settings = read_settings(text)
    except Fault:
        return [TEXT_HAS_FAULT]
    channels = len(settings.channels)
    front.readout = Readout(settings)
    front.hearing = Hearing(channels)
    return [0, channels, most_bytes(channels)]


def check_text(front, numbers, text):
    if not row_fits(text, LONGEST_TEXT, GREATEST_BYTE):
        return [OUT_OF_RANGE]
    try:
        settings = read_settings(text)
    except Fault as fault:
        return [0, 1, fault.kind, fault.place]
    return [0, 0, len(settings.channels)]


def print_settings(front, numbers, row):
    return [0] + one_text(front.readout.settings)


def cross_once(front, numbers, samples):
    asked = numbers[0]
    if not 0 <= asked <= 1 or not samples_fit(samples):
        return [OUT_OF_RANGE]
    readout = front.readout
    refusal = refused_crossings(readout, 1, samples)
    if refusal < 0:
        return [refusal]
    readout.come(asked, samples)
    return [0, readout.fates[-1], readout.waiting(), readout.busies[-1]]


def cross_often(front, numbers, samples):
    often = numbers[0]
    asked = numbers[1]
    if not 1 <= often <= MOST_OFTEN or not 0 <= asked <= 1 or not samples_fit(samples):
        return [OUT_OF_RANGE]
    readout = front.readout
    refusal = refused_crossings(readout, often, samples)
    if refusal < 0:
        return [refusal]
    readout.come_often(often, asked, samples)
    return [0, readout.fates[-often:].count(TAKEN), readout.waiting(), readout.busies[-1]]


def show_wire(front, numbers, row):
    skipped = numbers[0]
    most = numbers[1]
    if not 0 <= skipped <= FARTHEST_BYTE or not 0 <= most <= MOST_BYTES_ASKED:
        return [OUT_OF_RANGE]
    readout = front.readout
    shown = readout.sent[skipped:min(skipped + most, readout.gone)]
    return [0, len(shown)] + shown


def show_kept(front, numbers, row):
    channel = numbers[0]
    readout = front.readout
    refusal = refused_channel(readout, channel)
    if refusal < 0:
        return [refusal]
    return [0] + stretches_of([readout.is_kept(crossing, channel - 1) for crossing in range(readout.known())])


def show_high(front, numbers, row):
    channel = numbers[0]
    readout = front.readout
    refusal = refused_channel(readout, channel)
    if refusal < 0:
        return [refusal]
    return [0] + stretches_of([highs[channel - 1] for highs in readout.highs])


def show_counts(front, numbers, row):
    readout = front.readout
    fates = readout.fates
    made = len(readout.frames)
    went_in = len([frame for frame in readout.frames.values() if frame[0] == WENT_IN])
    answer = [0, readout.crossings()]
    answer.extend([fates.count(fate) for fate in (NOT_ASKED, TAKEN, DEAD_BY_GAP, DEAD_BY_BUSY)])
    answer.extend([went_in, made - went_in, fates.count(TAKEN) - made])
    answer.extend([readout.gone, readout.waiting(), readout.most])
    return answer


def show_frame(front, numbers, row):
    crossing = numbers[0]
    readout = front.readout
    if not 0 <= crossing <= GREATEST_CROSSING:
        return [OUT_OF_RANGE]
    if crossing >= readout.crossings():
        return [NOT_THERE]
    if readout.fates[crossing] != TAKEN:
        return [NOT_TAKEN]
    if crossing >= readout.known():
        return [NOT_KNOWN]
    frame = readout.frames[crossing]
    return [0, frame[0]] + frame[1]


def show_margin(front, numbers, row):
    settings = front.readout.settings
    margin = margin_of(settings)
    return [0, margin, settings.depth, 1 if margin <= settings.depth else 0]


def show_worst(front, numbers, row):
    yields = worst_row(front.readout.settings)
    return [0, len(yields)] + yields


def play_yields(front, numbers, yields):
    if not row_fits(yields, MOST_YIELDS, GREATEST_YIELD):
        return [OUT_OF_RANGE]
    settings = front.readout.settings
    if max(yields, default=0) > most_bytes(len(settings.channels)):
        return [ABOVE_GREATEST]
    return [0] + play_row(settings, yields)


def pack_frame(front, numbers, pairs):
    crossing = numbers[0]
    channels = pairs[0::2]
    samples = pairs[1::2]
    if not 0 <= crossing <= GREATEST_CROSSING or not pairs_fit(channels, samples):
        return [OUT_OF_RANGE]
    told = [None] * len(front.readout.settings.channels)
    if max(channels, default=0) > len(told):
        return [NOT_THERE]
    if not rises(channels):
        return [NOT_RISING]
    for channel, sample in zip(channels, samples):
        told[channel - 1] = sample
    return [0] + frame_of(crossing, told)


def feed_bytes(front, numbers, octets):
    if not row_fits(octets, MOST_BYTES_FED, GREATEST_BYTE):
        return [OUT_OF_RANGE]
    hearing = front.hearing
    bad_before = hearing.bad
    frames = hearing.hear(octets)
    answer = [0, len(frames)]
    for frame in frames:
        answer.append(frame[0])
        answer.extend(counted_pairs(frame[1]))
    answer.append(hearing.bad - bad_before)
    return answer


def show_heard(front, numbers, row):
    hearing = front.hearing
    return [0, hearing.read, hearing.bad, -1 if hearing.begun is None else len(hearing.begun)]


def show_check(front, numbers, signs):
    if not row_fits(signs, MOST_SIGNS, GREATEST_SIGN):
        return [OUT_OF_RANGE]
    return [0] + check_of(signs)


def hush(front, numbers, row):
    front.hearing = Hearing(len(front.readout.settings.channels))
    return [0]


def show_live(front, numbers, row):
    fates = front.readout.fates
    asked = len(fates) - fates.count(NOT_ASKED)
    # None asked for is told as none of one.
    return [0] + lowest_terms(fates.count(TAKEN), max(1, asked))


def show_dead(front, numbers, row):
    readout = front.readout
    return [0] + stretches_of([readout.busy_seen(crossing) for crossing in range(readout.crossings())])


def show_state(front, numbers, row):
    settings = front.readout.settings
    answer = [0, len(settings.channels), settings.ahead, settings.behind]
    answer.extend([settings.depth, settings.rate, settings.high_mark, settings.low_mark])
    answer.extend([settings.delay, settings.gap, front.readout.crossings()])
    return answer


# By a call's number: how many whole numbers it has, whether a row stands behind them, and
# what answers it.
CALLS = {
    0: (0, True, tell_settings),
    1: (0, True, check_text),
    2: (0, False, print_settings),
    3: (1, True, cross_once),
    4: (2, True, cross_often),
    5: (2, False, show_wire),
    6: (1, False, show_kept),
    7: (1, False, show_high),
    8: (0, False, show_counts),
    9: (1, False, show_frame),
    10: (0, False, show_margin),
    11: (0, False, show_worst),
    12: (0, True, play_yields),
    13: (1, True, pack_frame),
    14: (0, True, feed_bytes),
    15: (0, False, show_heard),
    16: (0, True, show_check),
    17: (0, False, hush),
    18: (0, False, show_live),
    19: (0, False, show_dead),
    20: (0, False, show_state),
}


def numbers_due(call):
    return CALLS[call][0]


def has_row(call):
    return CALLS[call][1]


def answer_to(front, call, numbers, row):
    """Gives a call's answer, or its refusal alone; row is empty where the call has none."""
    handler = CALLS[call][2]
    return handler(front, numbers, row)
