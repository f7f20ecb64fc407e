"""The promises over the whole program: what goes in goes out, and is read back, through damage too."""

import random
import unittest

from tests.helper import ask, channels_text, in_lists
from tests.model import Model, frame
from tests.test_promises import some_row, some_settings, told


def pairs_of(samples):
    kept = [(channel, sample) for channel, sample in enumerate(samples, start=1) if sample is not None]
    return [len(kept)] + [number for pair in kept for number in pair]


def in_pieces(rng, octets, longest):
    pieces = []
    while octets:
        length = rng.randint(0, longest)
        pieces.append(octets[:length])
        octets = octets[length:]
    return pieces


class WireAndBuffer(unittest.TestCase):
    def line(self, seed, quiet=0):
        """The model of a line's crossings, and the calls that bring them; so many quiet ones come last."""
        rng = random.Random(seed)
        settings = some_settings(rng)
        pieces = some_row(rng, settings[0])[:12]
        pieces += [(0, [0] * len(settings[0]), 50)] * (quiet // 50)
        row = [(asked, samples) for asked, samples, often in pieces for _ in range(max(often, 1))]
        calls = [("settings", told(*settings))]
        calls += [("times", max(often, 1), asked, samples) for asked, samples, often in pieces]
        return Model(*settings, row), calls

    def test_each_crossing_is_just_one_of_four(self):
        for seed in range(200):
            model, calls = self.line(seed)
            counts, live = ask(*calls, ("counts",), ("live",))[-2:]
            self.assertEqual(sum(counts[2:6]), counts[1], seed)
            self.assertEqual(counts[1], len(model.row), seed)
            self.assertEqual(sum(counts[6:9]), counts[3], seed)
            asked = counts[1] - counts[2]
            self.assertEqual(counts[3] * live[2], live[1] * asked, seed)

    def test_frames_that_went_in_lie_one_behind_the_other(self):
        waited = 0
        for seed in range(300):
            model, calls = self.line(seed)
            crossings = range(len(model.row))
            frames = in_lists([("frame", crossing) for crossing in crossings], calls, 60)
            went_in = [octet for answer in frames if answer[:2] == [0, 1] for octet in answer[2:]]
            counts, wire = ask(*calls, ("counts",), ("wire", 0, 300))[-2:]
            self.assertEqual(wire[2:], went_in[:min(300, counts[9])], seed)
            self.assertEqual(counts[9] + counts[10], len(went_in), seed)
            # What was in the buffer goes out behind, as it went in.
            if model.rate and counts[1] <= 300:
                quiet = ("times", 100, 0, [0] * len(model.channels))
                later = ask(*calls, quiet, ("wire", counts[9], 300))[-1]
                waiting = went_in[counts[9]:][:min(300, 100 * model.rate)]
                self.assertEqual(later[2:2 + len(waiting)], waiting, seed)
                waited += counts[10] > 0
        self.assertGreater(waited, 30)

    def test_what_went_out_is_read_back(self):
        read = 0
        for seed in range(300):
            model, calls = self.line(seed, 150)
            gone = ask(*calls, ("counts",))[-1][9]
            wires = ask(*calls, *[("wire", start, 300) for start in range(0, gone, 300)])
            octets = [octet for answer in wires[len(calls):] for octet in answer[2:]]
            due, length = [], 0
            for crossing, made in sorted(model.frames.items()):
                length += made[0] * (len(made) - 1)
                if made[0] and length <= gone:
                    samples = model.row[crossing][1]
                    due += [crossing] + pairs_of([s if crossing in kept else None for s, kept in zip(samples, model.keeps)])
                    read += 1
            feeds = [("feed", piece) for piece in in_pieces(random.Random(seed), octets, 400)]
            found = ask(calls[0], *feeds, ("heard",))[1:]
            self.assertEqual([number for answer in found[:-1] for number in answer[2:-1]], due, seed)
            self.assertEqual(found[-1][2], 0, seed)
        self.assertGreater(read, 1000)


class ReadBack(unittest.TestCase):
    def test_packed_frames_in_whatever_pieces(self):
        for seed in range(200):
            rng = random.Random(seed)
            count = rng.randint(0, 8)
            made = []
            for _ in range(20):
                top = rng.choice([0, 3, 900, 4095])
                made.append((rng.randint(0, 4095), [rng.choice([None, rng.randint(0, top)]) for _ in range(count)]))
            text = ("settings", channels_text(count))
            packs = [("pack", crossing, pairs_of(samples)[1:]) for crossing, samples in made]
            octets = [octet for answer in ask(text, *packs)[1:] for octet in answer[1:]]
            pieces = in_pieces(rng, octets, rng.choice([12, 25, 400]))
            found = ask(text, *[("feed", piece) for piece in pieces], ("heard",))[1:]
            due = [number for crossing, samples in made for number in [crossing] + pairs_of(samples)]
            self.assertEqual([number for answer in found[:-1] for number in answer[2:-1]], due, seed)
            self.assertEqual(found[-1], [0, 20, 0, -1], seed)


class Damage(unittest.TestCase):
    """A row of three frames, in which one is changed: the two others are read, and never another one."""

    rows = {
        0: [(0, []), (4095, []), (129, [])],
        2: [(5, [3, None]), (6, [700, 4095]), (7, [None, None])],
        8: [(1, [4095] * 8), (2, [0] * 8), (3, [None, 9] * 4)],
    }

    def others_are_read(self, count, changes):
        """changes: which frame is changed, and the three frames' bytes then."""
        told_each = [[crossing] + pairs_of(samples) for crossing, samples in self.rows[count]]
        calls = []
        for _, octets in changes:
            calls += [("hush",), ("feed", octets)]
        found = in_lists(calls, [("settings", channels_text(count))], 60)[1::2]
        for (changed, octets), answer in zip(changes, found):
            due = [number for place, each in enumerate(told_each) if place != changed for number in each]
            self.assertEqual(answer[:-1], [0, 2] + due, octets)
            self.assertLessEqual(answer[-1], 1, octets)

    def test_one_byte(self):
        for count, row in self.rows.items():
            frames = [frame(crossing, samples) for crossing, samples in row]
            changes = []
            for which, octets in enumerate(frames):
                for place, octet in enumerate(octets):
                    for other in set(range(256)) - {128, octet}:
                        changed = octets[:place] + [other] + octets[place + 1:]
                        changes.append((which, sum(frames[:which], []) + changed + sum(frames[which + 1:], [])))
            self.others_are_read(count, changes)

    def test_two_signs_beside_each_other(self):
        rng = random.Random(3)
        for count, row in self.rows.items():
            frames = [frame(crossing, samples) for crossing, samples in row]
            changes = []
            for which, octets in enumerate(frames):
                # From the first sign to the check's second one.
                for place in range(2, len(octets) - 2):
                    for _ in range(120):
                        changed = list(octets)
                        changed[place] ^= rng.randint(1, 127)
                        changed[place + 1] ^= rng.choice([0, 1, 64, rng.randint(1, 127)])
                        changes.append((which, sum(frames[:which], []) + changed + sum(frames[which + 1:], [])))
            self.others_are_read(count, changes)

    def test_no_change_of_two_signs_leaves_the_check(self):
        """What two signs are changed by, and zero bits behind, would have to leave no remainder."""
        calls = [("crc", [first, second]) for first in range(128) for second in range(128)]
        found = in_lists(calls, [])
        self.assertEqual(found.count([0, 0, 0]), 1)
        self.assertEqual(found[0], [0, 0, 0])


if __name__ == "__main__":
    unittest.main()
