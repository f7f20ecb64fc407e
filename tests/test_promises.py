"""Many lines, the same ones each time, against the slow second reading of the document."""

import random
import unittest

from tests.helper import ask, channels_text
from tests.model import Model, stretches


def some_settings(rng):
    channels = []
    for _ in range(rng.choice([0, 1, 1, 2, 3, 5, 8])):
        on = rng.choice([0, 1, 50, rng.randint(0, 200)])
        channels.append((rng.choice([0, 20, 4095, rng.randint(0, 100)]), on, rng.randint(0, on)))
    high = rng.choice([0, 400, rng.randint(0, 120)])
    depth = rng.choice([0, 400, rng.randint(0, 150)])
    buffer = (depth, rng.choice([0, 50, rng.randint(0, 12)]), high, rng.choice([high, rng.randint(0, high)]))
    keep = (rng.randint(0, 4), rng.randint(0, 4))
    return channels, keep, buffer, rng.choice([0, 8, rng.randint(0, 8)]), rng.choice([0, 0, 10, rng.randint(0, 10)])


def told(channels, keep, buffer, delay, gap):
    lines = [f"channel {'abcdefgh'[n]} pedestal {p} on {a} off {b}" for n, (p, a, b) in enumerate(channels)]
    lines += ["keep %d %d" % keep, "buffer %d rate %d high %d low %d" % buffer, f"delay {delay}", f"gap {gap}"]
    return "\n".join(lines)


def some_row(rng, channels):
    """Pieces of like crossings, as (asked, samples, how often); 0 stands for a single cross."""
    pieces = []
    for _ in range(rng.randint(1, 25)):
        top = rng.choice([1, 150, 4095])
        samples = [rng.randint(0, top) for _ in channels]
        pieces.append((int(rng.random() < 0.8), samples, rng.choice([0, 0, 0, rng.randint(1, 12)])))
    return pieces


class Promises(unittest.TestCase):
    def against_model(self, rng):
        settings = some_settings(rng)
        pieces = some_row(rng, settings[0])
        row = [(asked, samples) for asked, samples, often in pieces for _ in range(max(often, 1))]
        model = Model(*settings, row)
        calls = [("times", often, asked, samples) if often else ("cross", asked, samples)
                 for asked, samples, often in pieces]
        count = len(settings[0])
        asked_for = [("counts",), ("margin",), ("live",), ("dead",), ("state",)]
        asked_for += [("frame", n) for n in range(0, len(row) + 2, 1 + len(row) // 30)]
        for channel in range(1, count + 1):
            asked_for += [("kept", channel), ("high", channel)]
        wires = [("wire", n, 300) for n in range(0, len(model.wire) + 1, 300)]
        found = ask(("settings", told(*settings)), *calls, *asked_for, *wires)
        self.came(model, pieces, found[1:1 + len(calls)])
        due = [model.counts(), model.margin(), model.live(), model.dead(), model.state()]
        due += [model.frame(call[1]) for call in asked_for if call[0] == "frame"]
        for channel in range(count):
            due += [[0] + stretches(model.keeps[channel]), [0] + stretches(model.highs[channel])]
        self.assertEqual(found[1 + len(calls):-len(wires)], due)
        self.assertEqual([byte for answer in found[-len(wires):] for byte in answer[2:]], model.wire)
        return model

    def came(self, model, pieces, found):
        end = 0
        for (_, _, often), answer in zip(pieces, found):
            begin, end = end, end + max(often, 1)
            became = model.fates[begin:end].count(1) if often else model.fates[begin]
            self.assertEqual(answer, [0, became, model.fill[end - 1], model.busy[end - 1]])

    def test_many_lines(self):
        fates, lost = set(), 0
        for seed in range(1500):
            with self.subTest(seed=seed):
                model = self.against_model(random.Random(seed))
                fates |= set(model.fates)
                lost += model.counts()[7]
        self.assertEqual(fates, {0, 1, 2, 3})
        self.assertGreater(lost, 0)

    def test_no_frame_is_lost_where_the_margin_is_no_more_than_the_depth(self):
        reached = 0
        for seed in range(300):
            rng = random.Random(seed)
            rate, high, ahead, delay = rng.randint(0, 30), rng.randint(0, 120), rng.randint(0, 4), rng.randint(0, 3)
            lines = f"keep {ahead} 0\ndelay {delay}\nbuffer {{}} rate {rate} high {high} low {rng.randint(0, high)}"
            count = rng.choice([0, 1, 8])
            full = ask(("settings", channels_text(count, lines.format(0))), ("margin",))[1][1]
            if full > 400:
                continue
            rows = [("times", rng.randint(1, 9), int(rng.random() < 0.9), [rng.choice([0, 4095])] * count)
                    for _ in range(40)]
            counts = ask(("settings", channels_text(count, lines.format(full))), *rows, ("counts",))[-1]
            self.assertEqual(counts[7], 0, seed)
            self.assertLessEqual(counts[11], full, seed)
            self.assertEqual(sum(counts[2:6]), counts[1], seed)
            reached += counts[11] > high
        self.assertGreater(reached, 0)


if __name__ == "__main__":
    unittest.main()
