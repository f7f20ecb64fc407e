"""Calls 11 worst, 12 play: the worst row of yields, and the buffer by any row."""

import random
import unittest

from tests.helper import ask, channels_text, in_lists, last
from tests.model import played

LONGEST = [8, 10, 11, 13, 15, 17, 19, 21, 23]


def buffer(rate, high, low=0, depth=400):
    return f"buffer {depth} rate {rate} high {high} low {low}\n"


def worst(count, rest=""):
    return last(("settings", channels_text(count, rest)), ("worst",))


def play(text, yields):
    return last(("settings", text), ("play", yields))


class Worst(unittest.TestCase):
    def test_new(self):
        self.assertEqual(ask(("worst",)), [[0, 1, 8]])

    def test_longest_frame_at_most_the_rate(self):
        for count, longest in enumerate(LONGEST):
            for rate in (longest, longest + 1, 50):
                for high in (0, longest, 400):
                    found = worst(count, buffer(rate, high) + "keep 4 4\ndelay 8")
                    self.assertEqual(found, [0, 1, longest])

    def test_high_mark_at_most_the_longest_frame(self):
        for count, longest in enumerate(LONGEST):
            for rate in (0, longest - 1):
                for high in (0, 1, longest - 1, longest):
                    found = worst(count, buffer(rate, high) + "keep 1 0\ndelay 2")
                    self.assertEqual(found, [0, 5, high] + [longest] * 4)

    def test_high_mark_above_the_longest_frame(self):
        for count, longest in enumerate(LONGEST):
            for rate in (0, longest - 1):
                for more in (1, 2, 100):
                    found = worst(count, buffer(rate, longest + more) + "keep 1 0\ndelay 2")
                    self.assertEqual(found, [0, 5 + more, longest] + [rate + 1] * more + [longest] * 4)

    def test_ahead_and_delay_at_their_ends(self):
        for ahead, delay in ((0, 0), (4, 0), (0, 8), (4, 8)):
            rest = buffer(3, 5) + f"keep {ahead} 0\ndelay {delay}"
            self.assertEqual(worst(0, rest), [0, 2 + ahead + delay, 5] + [8] * (1 + ahead + delay))
            rest = buffer(3, 10) + f"keep {ahead} 0\ndelay {delay}"
            self.assertEqual(worst(0, rest), [0, 4 + ahead + delay, 8, 4, 4] + [8] * (1 + ahead + delay))

    def test_behind_gap_low_mark_and_depth_leave_it_alone(self):
        plain = worst(2, buffer(4, 40) + "keep 1 0")
        self.assertEqual(worst(2, buffer(4, 40, 40, 0) + "keep 1 4\ngap 10"), plain)

    def test_the_longest_row(self):
        found = worst(0, buffer(0, 400) + "keep 4 4\ndelay 8")
        self.assertEqual(found, [0, 406, 8] + [1] * 392 + [8] * 13)

    def test_crossings_leave_it_alone(self):
        self.assertEqual(last(("times", 9, 1, []), ("worst",)), [0, 1, 8])


class Play(unittest.TestCase):
    def test_no_yields(self):
        self.assertEqual(ask(("play", [])), [[0, 0, 0, 0]])
        self.assertEqual(play(channels_text(8, buffer(0, 0)), []), [0, 0, 0, 0])

    def test_500_yields(self):
        self.assertEqual(play(buffer(0, 400), [0] * 500), [0, 0, 0, 0])
        self.assertEqual(play(buffer(3, 400), [3] * 500), [0, 3, 0, 3])
        self.assertEqual(play(buffer(0, 0), [1] * 500), [0, 1, 499, 1])

    def test_bytes_go_out_ahead_of_the_yield(self):
        self.assertEqual(play(buffer(5, 400), [8]), [0, 8, 0, 8])
        self.assertEqual(play(buffer(5, 400), [8, 8]), [0, 11, 0, 11])
        self.assertEqual(play(buffer(5, 400), [8, 0]), [0, 8, 0, 3])
        self.assertEqual(play(buffer(5, 400), [8, 0, 2]), [0, 8, 0, 2])

    def test_rate_of_none(self):
        self.assertEqual(play(buffer(0, 400), [8] * 50), [0, 400, 0, 400])
        self.assertEqual(play(buffer(0, 400), [8] * 52), [0, 408, 1, 408])

    def test_the_depth_is_set_aside(self):
        self.assertEqual(play(buffer(0, 400, 0, 0), [8] * 9), [0, 72, 0, 72])

    def test_busy_is_found_late(self):
        for ahead, delay in ((0, 0), (1, 0), (0, 1), (4, 8)):
            text = buffer(0, 0) + f"keep {ahead} 4\ndelay {delay}"
            came = ahead + delay + 1
            self.assertEqual(play(text, [2] * 20), [0, 2 * came, 20 - came, 2 * came])
            self.assertEqual(play(text, [2] * came), [0, 2 * came, 0, 2 * came])
            self.assertEqual(play(text, [2] * (came + 1)), [0, 2 * came, 1, 2 * came])

    def test_yields_of_0_that_find_it_busy_count(self):
        self.assertEqual(play(buffer(1, 0), [8] + [0] * 20), [0, 8, 8, 0])
        self.assertEqual(play(buffer(0, 0), [1, 0, 0, 0]), [0, 1, 3, 1])
        self.assertEqual(play(buffer(0, 0), [0, 0, 0, 1]), [0, 1, 0, 1])

    def test_busy_above_the_high_mark_down_to_the_low_mark(self):
        self.assertEqual(play(buffer(0, 8), [8, 0, 0]), [0, 8, 0, 8])
        self.assertEqual(play(buffer(0, 7), [8, 0, 0]), [0, 8, 2, 8])
        # 8, 6, 4, 2: busy behind the first two, so the second and third are found busy.
        self.assertEqual(play(buffer(2, 7, 4), [8, 0, 0, 0]), [0, 8, 2, 2])
        self.assertEqual(play(buffer(2, 7, 3), [8, 0, 0, 0]), [0, 8, 3, 2])
        # 6, 7, 5 lie between the marks and it was never busy.
        self.assertEqual(play(buffer(2, 7, 4), [6, 3, 0, 0]), [0, 7, 0, 3])

    def test_the_most_is_behind_a_crossing(self):
        self.assertEqual(play(buffer(8, 400), [8, 8, 1]), [0, 8, 0, 1])

    def test_up_to_the_longest_frame(self):
        for count, longest in enumerate(LONGEST):
            text = channels_text(count)
            self.assertEqual(play(text, [longest]), [0, longest, 0, longest])
            self.assertEqual(play(text, [longest + 1]), [-9])
            self.assertEqual(play(text, [0] * 499 + [longest + 1]), [-9])
            self.assertEqual(play(text, [100, 0]), [-9])

    def test_out_of_range(self):
        for yields in ([-1], [101], [10 ** 18], [-10 ** 18], [0] * 501, [0] * 1100, [0, 0, 101], [9] * 501):
            self.assertEqual(ask(("play", yields)), [[-1]])

    def test_out_of_range_goes_ahead_of_above_the_longest(self):
        for yields in ([100, 101], [101, 100], [9, -1], [100] * 501):
            self.assertEqual(ask(("play", yields)), [[-1]])

    def test_crossings_and_yields_leave_one_another_alone(self):
        come = [("settings", buffer(1, 20)), ("times", 9, 1, [])]
        shown = [("counts",), ("dead",), ("state",), ("wire", 0, 300), ("cross", 1, [])]
        found = ask(*come, ("play", [8] * 9), ("play", [8] * 9), *shown)
        self.assertEqual(found[2], found[3])
        self.assertEqual(found[2], play(buffer(1, 20), [8] * 9))
        self.assertEqual(found[4:], ask(*come, *shown)[2:])

    def test_many_rows(self):
        busy = 0
        for seed in range(600):
            rng = random.Random(seed)
            count, high = rng.choice([0, 1, 8]), rng.choice([0, 400, rng.randint(0, 90)])
            rate, low = rng.choice([0, 50, rng.randint(0, 15)]), rng.choice([0, high, rng.randint(0, high)])
            ahead, delay = rng.randint(0, 4), rng.randint(0, 8)
            text = channels_text(count, buffer(rate, high, low) + f"keep {ahead} 1\ndelay {delay}")
            tops = [rng.choice([1, 4, LONGEST[count]]) for _ in range(5)]
            yields = [rng.randint(0, rng.choice(tops)) for _ in range(rng.choice([1, 9, 60, 500]))]
            found = play(text, yields)
            self.assertEqual(found, played(rate, high, low, ahead + delay + 1, yields), seed)
            busy += found[2] > 0
        self.assertGreater(busy, 100)


class Margin(unittest.TestCase):
    """No row of yields makes more than the margin, and the worst row makes just so much."""

    def test_the_worst_row_makes_just_the_margin(self):
        for count, longest in enumerate(LONGEST):
            for rate in (0, 1, longest - 1, longest, longest + 1, 50):
                for high in {0, 1, max(rate - 1, 0), rate, rate + 1, longest - 1, longest, longest + 1, 150, 400}:
                    for low in {0, high // 2, high}:
                        for keep, delay in ((0, 0), (4, 8), (1, 3)):
                            self.worst_is_the_margin(count, buffer(rate, high, low) + f"keep {keep} 0\ndelay {delay}")

    def worst_is_the_margin(self, count, rest):
        text = ("settings", channels_text(count, rest))
        _, margin, found = ask(text, ("margin",), ("worst",))
        self.assertEqual(found[1], len(found) - 2)
        most = last(text, ("play", found[2:]))
        # Nothing more comes behind the worst row: none of it is found busy, and it ends at the top.
        self.assertEqual(most, [0, margin[1], 0, margin[1]], rest)
        more = last(text, ("play", (found[2:] + [found[-1]] * 30)[:500]))
        self.assertEqual(more[1], margin[1], rest)

    def test_no_row_makes_more(self):
        """Every fill and every row of busies that can be reached is gone through, yield by yield."""
        for rate, high, low, late in ((0, 9, 4, 1), (3, 9, 9, 2), (7, 20, 0, 3), (7, 3, 1, 2), (8, 30, 5, 3), (5, 0, 0, 3)):
            text = ("settings", buffer(rate, high, low) + f"keep {late - 1} 0")
            margin = ask(text, ("margin",))[1][1]
            reached, fresh = {(0, (False,) * late)}, [(0, (False,) * late)]
            while fresh:
                fill, busies = fresh.pop()
                for coming in range(9) if not busies[0] else [0]:
                    level = max(fill - rate, 0) + coming
                    state = (level, busies[1:] + (level > high or (level > low and busies[-1]),))
                    if state not in reached:
                        reached.add(state)
                        fresh.append(state)
            self.assertEqual(max(fill for fill, _ in reached), margin)

    def test_no_played_row_makes_more(self):
        for seed in range(40):
            rng = random.Random(seed)
            count, rate, high = rng.choice([0, 3, 8]), rng.randint(0, 12), rng.randint(0, 60)
            rest = buffer(rate, high, rng.randint(0, high)) + f"keep {rng.randint(0, 4)} 0\ndelay {rng.randint(0, 4)}"
            text = ("settings", channels_text(count, rest))
            margin = ask(text, ("margin",))[1][1]
            few = [0, min(rate + 1, LONGEST[count]), LONGEST[count]]
            rows = [[rng.choice(few) for _ in range(60)] for _ in range(30)]
            rows += [[LONGEST[count]] * 150]
            for found in in_lists([("play", row) for row in rows], [text]):
                self.assertLessEqual(found[1], margin, seed)


if __name__ == "__main__":
    unittest.main()
