"""A slow second reading of the document: everything is told anew from the row of all that came."""

import re
from fractions import Fraction

DIVISOR = "100010001000011"


def check(signs):
    """Long division on the written bits."""
    bits = [int(b) for b in "".join(f"{sign:07b}" for sign in signs) + "0" * 14]
    for place in range(len(bits) - 14):
        if bits[place]:
            for step, digit in enumerate(DIVISOR):
                bits[place + step] ^= int(digit)
    rest = "".join(str(b) for b in bits[-14:])
    return [int(rest[:7], 2), int(rest[7:], 2)]


def frame(crossing, samples):
    """samples: one for each channel, None where it isn't kept."""
    kept = [s for s in samples if s is not None]
    width = 0
    while any(s >= 2 ** width for s in kept):
        width += 1
    bits = f"{crossing % 4096:012b}" + "".join("01"[s is not None] for s in samples) + f"{width:04b}"
    if width:
        bits += "".join(f"{s:0{width}b}" for s in kept)
    while len(bits) % 7:
        bits += "0"
    signs = [int(bits[n:n + 7], 2) for n in range(0, len(bits), 7)]
    return [128, len(signs)] + signs + check([len(signs)] + signs) + [129]


def told_by(inside, channels):
    """What a frame with this between its ends tells: the crossing, how many samples, pairs; None if none has it."""
    count, signs, rest = inside[:1], inside[1:-2], inside[-2:]
    if len(inside) < 3 or count != [len(signs)] or max(inside) > 127 or rest != check(count + signs):
        return None
    bits = "".join(f"{sign:07b}" for sign in signs)
    found = re.fullmatch("([01]{12})([01]{%d})([01]{4})([01]*)" % channels, bits)
    if not found:
        return None
    crossing, marks, width, tail = found.groups()
    width, kept = int(width, 2), [n for n, mark in enumerate(marks, start=1) if mark == "1"]
    samples, filling = tail[:width * len(kept)], tail[width * len(kept):]
    if len(samples) < width * len(kept) or len(filling) > 6 or "1" in filling or width > 12:
        return None
    samples = [int(samples[n * width:n * width + width] or "0", 2) for n in range(len(kept))]
    if width and max(samples, default=0) < 2 ** (width - 1):
        return None
    return [int(crossing, 2), len(kept)] + [n for pair in zip(kept, samples) for n in pair]


def heard(octets, channels):
    """What the frames that are read in these bytes tell, how many are bad, and what heard answers behind them."""
    found, bad, begun = [], 0, -1
    for piece in re.finditer(b"\x80([^\x80\x81]*)(\x81?)", bytes(octets)):
        inside = list(piece.group(1))
        if piece.end() == len(octets) and not piece.group(2):
            begun = len(inside)
            continue
        told = told_by(inside, channels) if piece.group(2) else None
        if told:
            found.append(told)
        else:
            bad += 1
    return found, bad, [0, len(found), bad, begun]


def played(rate, high, low, late, yields):
    fills, busies, stopped = [0], [False] * late, 0
    for coming in yields:
        if busies[-late]:
            coming, stopped = 0, stopped + 1
        fills.append(max(fills[-1] - rate, 0) + coming)
        busies.append(fills[-1] > high or (fills[-1] > low and busies[-1]))
    return [0, max(fills), stopped, fills[-1]]


def stretches(numbers):
    numbers = set(numbers)
    begins = sorted(n for n in numbers if n - 1 not in numbers)
    ends = sorted(n + 1 for n in numbers if n + 1 not in numbers)
    return [len(begins)] + [n for pair in zip(begins, ends) for n in pair]


class Model:
    """settings: channels (P, A, B), and keep, buffer, delay, gap as tuples; row: (asked, samples)."""

    def __init__(self, channels, keep, buffer, delay, gap, row):
        self.channels, self.row = channels, row
        self.ahead, self.behind = keep
        self.depth, self.rate, self.top, self.low = buffer
        self.delay, self.gap = delay, gap
        self.highs = [self.high_at(channel) for channel in range(len(channels))]
        self.run()

    def high_at(self, channel):
        pedestal, on, off = self.channels[channel]
        found, was = set(), False
        for crossing, (_, samples) in enumerate(self.row):
            signal = max(samples[channel] - pedestal, 0)
            was = signal >= (off if was else on)
            if was:
                found.add(crossing)
        return found

    def kept_at(self, channel):
        spread = {c + d for c in self.highs[channel] for d in range(-self.ahead, self.behind + 1)}
        return {c for c in spread if 0 <= c < len(self.row) - self.ahead}

    def run(self):
        keeps = [self.kept_at(channel) for channel in range(len(self.channels))]
        self.keeps = keeps
        self.fates, self.busy, self.fill = [], [], []
        self.frames, self.wire, buffer, busy = {}, [], [], 0
        for now, (asked, _) in enumerate(self.row):
            self.wire += buffer[:self.rate]
            buffer = buffer[self.rate:]
            seen = now - self.delay - 1
            if not asked:
                fate = 0
            elif any(self.fates[c] == 1 for c in range(max(0, now - self.gap), now)):
                fate = 2
            elif seen >= 0 and self.busy[seen]:
                fate = 3
            else:
                fate = 1
            self.fates.append(fate)
            known = now - self.ahead
            if known >= 0 and self.fates[known] == 1:
                samples = self.row[known][1]
                made = frame(known, [s if known in keeps[n] else None for n, s in enumerate(samples)])
                fits = len(buffer) + len(made) <= self.depth
                self.frames[known] = [int(fits)] + made
                buffer = buffer + made if fits else buffer
            busy = 1 if len(buffer) > self.top else 0 if len(buffer) <= self.low else busy
            self.busy.append(busy)
            self.fill.append(len(buffer))
        self.buffer = buffer

    def counts(self):
        went = sum(f[0] for f in self.frames.values())
        fates = [self.fates.count(n) for n in range(4)]
        made = [went, len(self.frames) - went, fates[1] - len(self.frames)]
        return [0, len(self.row)] + fates + made + [len(self.wire), len(self.buffer), max(self.fill, default=0)]

    def frame(self, crossing):
        if crossing >= len(self.row):
            return [-5]
        if self.fates[crossing] != 1:
            return [-7]
        return [0] + self.frames[crossing] if crossing in self.frames else [-8]

    def live(self):
        asked = len(self.fates) - self.fates.count(0)
        part = Fraction(self.fates.count(1), asked) if asked else Fraction(0)
        return [0, part.numerator, part.denominator]

    def dead(self):
        seen = [behind + self.delay + 1 for behind, busy in enumerate(self.busy) if busy]
        return [0] + stretches([crossing for crossing in seen if crossing < len(self.row)])

    def state(self):
        marks = [self.depth, self.rate, self.top, self.low]
        return [0, len(self.channels), self.ahead, self.behind] + marks + [self.delay, self.gap, len(self.row)]

    def margin(self):
        longest = 5 + -(-(16 + 13 * len(self.channels)) // 7)
        if longest <= self.rate:
            full = longest
        else:
            full = longest + max(self.top - self.rate, 0) + (longest - self.rate) * (self.ahead + self.delay)
        return [0, full, self.depth, int(full <= self.depth)]
