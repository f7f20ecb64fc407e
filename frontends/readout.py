"""The readout: crossings as they come, what becomes of them, and the buffer to the wire."""

from frontends.busy import busy_behind, busy_by_marks
from frontends.frames import frame_of

NOT_ASKED = 0
TAKEN = 1
DEAD_BY_GAP = 2
DEAD_BY_BUSY = 3

WENT_IN = 1
LOST = 0


class Readout:
    """All that has come since the settings were told.

    For each crossing: samples, highs (whether each channel is high), fates, busies (1 if it
    was busy behind it). frames has (1 went in or 0 lost, bytes) for each crossing whose frame is made.
    sent is every byte that ever went into the buffer; the first gone of them are on the wire,
    the others are still in the buffer.
    """

    def __init__(self, settings):
        self.settings = settings
        self.samples = []
        self.highs = []
        self.fates = []
        self.busies = []
        self.frames = {}
        self.sent = []
        self.gone = 0
        self.most = 0

    def come(self, asked, samples):
        """One crossing comes, in the four steps' order."""
        self.gone += min(self.settings.rate, self.waiting())
        self.samples.append(samples)
        self.highs.append(self.highs_at(samples))
        self.fates.append(self.fate_of(asked))
        self.make_frame(self.known() - 1)
        busy_before = busy_behind(self.busies, len(self.busies) - 1)
        self.busies.append(busy_by_marks(self.settings, self.waiting(), busy_before))
        self.most = max(self.most, self.waiting())

    def come_often(self, often, asked, samples):
        for turn in range(often):
            self.come(asked, samples)

    def crossings(self):
        return len(self.busies)

    def waiting(self):
        """Gives how many bytes are in the buffer."""
        return len(self.sent) - self.gone

    def known(self):
        """Gives how many crossings are known: all but the last so many as are kept ahead."""
        return max(0, len(self.highs) - self.settings.ahead)

    def busy_seen(self, crossing):
        """Tells whether busy is seen at a crossing, whatever becomes of it."""
        return busy_behind(self.busies, crossing - self.settings.delay - 1) == 1

    def highs_at(self, samples):
        """Tells of each channel whether it is high at the crossing that comes now."""
        found = []
        for place, channel in enumerate(self.settings.channels):
            signal = max(0, samples[place] - channel[1])
            was_high = len(self.highs) > 0 and self.highs[-1][place]
            found.append(signal >= channel[2] or (was_high and signal >= channel[3]))
        return found

    def fate_of(self, asked):
        """Tells what becomes of the crossing that comes now."""
        now = len(self.fates)
        if asked == 0:
            return NOT_ASKED
        if TAKEN in self.fates[max(0, now - self.settings.gap):]:
            return DEAD_BY_GAP
        if self.busy_seen(now):
            return DEAD_BY_BUSY
        return TAKEN

    def make_frame(self, crossing):
        """Makes the frame of the crossing that is known now, if it was taken (below 0: none is known yet)."""
        if crossing < 0 or self.fates[crossing] != TAKEN:
            return
        frame = frame_of(crossing, self.kept_samples(crossing))
        if self.waiting() + len(frame) <= self.settings.depth:
            self.sent.extend(frame)
            self.frames[crossing] = (WENT_IN, frame)
        else:
            self.frames[crossing] = (LOST, frame)

    def kept_samples(self, crossing):
        """Gives a known crossing's sample for each channel, None where it isn't kept."""
        samples = self.samples[crossing]
        return [sample if self.is_kept(crossing, place) else None for place, sample in enumerate(samples)]

    def is_kept(self, crossing, place):
        first = max(0, crossing - self.settings.behind)
        end = crossing + self.settings.ahead + 1
        return any([highs[place] for highs in self.highs[first:end]])
