"""Calls 3 cross, 4 times, 6 kept, 7 high, 8 counts: what becomes of crossings."""

import unittest

from tests.helper import ask, channels_text, last


def one(pedestal, on, off, rest=""):
    return ("settings", f"channel a pedestal {pedestal} on {on} off {off}\n{rest}")


def crosses(samples, asked=1):
    return [("cross", asked, [sample]) for sample in samples]


def fates(*calls):
    return [answer[1] for answer, call in zip(ask(*calls), calls) if call[0] == "cross"]


class High(unittest.TestCase):
    def high(self, settings, samples):
        return last(settings, *crosses(samples), ("high", 1))

    def test_signal_is_the_sample_less_the_pedestal(self):
        self.assertEqual(self.high(one(10, 5, 5), [14, 15, 16, 14]), [0, 1, 1, 3])
        self.assertEqual(self.high(one(4095, 1, 0), [4095, 0, 4095]), [0, 0])
        self.assertEqual(self.high(one(4095, 0, 0), [0, 4094]), [0, 1, 0, 2])
        self.assertEqual(self.high(one(0, 4095, 4095), [4094, 4095, 4094]), [0, 1, 1, 2])

    def test_stays_high_down_to_off(self):
        self.assertEqual(self.high(one(0, 10, 4), [4, 9, 10, 9, 4, 3, 4, 9]), [0, 1, 2, 5])
        self.assertEqual(self.high(one(0, 10, 10), [10, 9, 10]), [0, 2, 0, 1, 2, 3])
        self.assertEqual(self.high(one(7, 1, 0), [7, 8, 0, 0]), [0, 1, 1, 4])

    def test_none_have_come(self):
        self.assertEqual(last(one(0, 0, 0), ("high", 1)), [0, 0])
        self.assertEqual(last(one(0, 0, 0), ("kept", 1)), [0, 0])

    def test_each_channel_for_itself(self):
        found = ask(
            ("settings", channels_text(8)), ("cross", 0, [1, 0] * 4), ("cross", 0, [0] * 7 + [1]),
            *[("high", n) for n in range(1, 9)],
        )
        odd, even = [0, 1, 0, 1], [0, 0]
        self.assertEqual(found[3:], [odd, even, odd, even, odd, even, odd, [0, 1, 1, 2]])

    def test_high_whether_asked_for_or_not(self):
        self.assertEqual(last(one(0, 1, 1), *crosses([1, 1], 0), *crosses([1]), ("high", 1)), [0, 1, 0, 3])


class Kept(unittest.TestCase):
    def kept(self, keep, samples):
        return last(one(0, 1, 1, f"keep {keep}"), *crosses(samples), ("kept", 1))

    def test_as_the_document_tells(self):
        self.assertEqual(self.kept("2 1", [0, 0, 0, 0, 1, 0, 0, 0, 0]), [0, 1, 2, 6])

    def test_ahead_and_behind_at_their_ends(self):
        row = [0] * 6 + [1] + [0] * 6
        self.assertEqual(self.kept("0 0", row), [0, 1, 6, 7])
        self.assertEqual(self.kept("4 0", row), [0, 1, 2, 7])
        self.assertEqual(self.kept("0 4", row), [0, 1, 6, 11])
        self.assertEqual(self.kept("4 4", row + [0] * 4), [0, 1, 2, 11])

    def test_untold_keeps_none_ahead_and_none_behind(self):
        self.assertEqual(last(one(0, 1, 1), *crosses([0, 1, 0, 0]), ("kept", 1)), [0, 1, 1, 2])

    def test_only_known_crossings(self):
        self.assertEqual(self.kept("4 0", [1, 1, 1, 1]), [0, 0])
        self.assertEqual(self.kept("4 0", [1, 1, 1, 1, 1]), [0, 1, 0, 1])
        self.assertEqual(self.kept("2 4", [1, 0, 0, 0]), [0, 1, 0, 2])
        self.assertEqual(self.kept("0 4", [1, 0]), [0, 1, 0, 2])

    def test_stretches_do_not_touch(self):
        self.assertEqual(self.kept("1 1", [1, 0, 0, 1, 0, 0, 0, 1, 0]), [0, 2, 0, 5, 6, 8])
        self.assertEqual(self.kept("0 0", [0, 1, 1, 0, 1]), [0, 2, 1, 3, 4, 5])

    def test_kept_whatever_became_of_them(self):
        found = last(one(0, 1, 1, "keep 1 0\ngap 10"), *crosses([1, 1], 0), *crosses([1, 1, 1]), ("kept", 1))
        self.assertEqual(found, [0, 1, 0, 4])


class Fates(unittest.TestCase):
    def test_not_asked_for_goes_first(self):
        text = "buffer 400 rate 0 high 0 low 0\ngap 1"
        self.assertEqual(fates(("settings", text), ("cross", 1, []), ("cross", 0, []), ("cross", 1, [])), [1, 0, 3])

    def test_gap(self):
        for gap in (0, 1, 2, 10):
            found = fates(("settings", f"gap {gap}"), *[("cross", 1, [])] * 25)
            self.assertEqual(found, [1 if n % (gap + 1) == 0 else 2 for n in range(25)])

    def test_gap_counts_crossings_not_asked_for(self):
        calls = [("cross", asked, []) for asked in (1, 0, 1, 1, 1)]
        self.assertEqual(fates(("settings", "gap 2"), *calls), [1, 0, 2, 1, 2])

    def test_gap_goes_ahead_of_busy(self):
        text = "buffer 400 rate 0 high 0 low 0\ngap 1"
        self.assertEqual(fates(("settings", text), *[("cross", 1, [])] * 4), [1, 2, 3, 3])

    def test_busy_is_seen_late(self):
        for delay in (0, 1, 8):
            text = f"buffer 400 rate 0 high 0 low 0\ndelay {delay}"
            found = fates(("settings", text), *[("cross", 1, [])] * 12)
            self.assertEqual(found, [1] * (delay + 1) + [3] * (11 - delay))

    def test_busy_is_later_by_the_crossings_kept_ahead(self):
        text = "buffer 400 rate 0 high 0 low 0\ndelay 1\nkeep 2 0"
        self.assertEqual(fates(("settings", text), *[("cross", 1, [])] * 6), [1, 1, 1, 1, 3, 3])

    def test_busy_ends_at_the_low_mark(self):
        text = ("settings", "buffer 400 rate 2 high 7 low 4")
        found = ask(text, ("cross", 1, []), *[("cross", 0, [])] * 4)
        self.assertEqual([answer[2:] for answer in found[1:]], [[8, 1], [6, 1], [4, 0], [2, 0], [0, 0]])

    def test_high_mark_must_be_passed(self):
        self.assertEqual(last(("settings", "buffer 400 rate 0 high 8 low 0"), ("cross", 1, [])), [0, 1, 8, 0])
        self.assertEqual(last(("settings", "buffer 400 rate 0 high 7 low 0"), ("cross", 1, [])), [0, 1, 8, 1])

    def test_between_the_marks_as_before(self):
        text = ("settings", "buffer 400 rate 3 high 9 low 4")
        found = ask(text, *[("cross", asked, []) for asked in (1, 1, 0, 0, 0, 1)])
        self.assertEqual([answer[2:] for answer in found[1:]], [[8, 0], [13, 1], [10, 1], [7, 1], [4, 0], [9, 0]])

    def test_untold_high_mark(self):
        # 23 bytes come and 20 go: 200 are in the buffer behind the 60th crossing.
        calls = [("settings", channels_text(8)), ("times", 60, 1, [4095] * 8), ("cross", 1, [2047] * 8)]
        self.assertEqual(ask(*calls)[1:], [[0, 60, 200, 0], [0, 1, 201, 1]])

    def test_untold_low_mark(self):
        longest, middle, none = [4095] * 8, [2047] * 8, [0] * 8
        calls = [("settings", channels_text(8)), ("times", 60, 1, longest), ("cross", 1, middle)]
        found = ask(*calls, ("times", 5, 0, none), ("cross", 0, none))
        self.assertEqual(found[3:], [[0, 0, 101, 1], [0, 0, 81, 0]])
        # Seen late, it is filled up to 220 before it empties by 20 at a time.
        calls = [("settings", channels_text(8, "delay 8")), ("times", 66, 1, longest), ("times", 2, 1, middle)]
        found = ask(*calls, ("times", 5, 0, none), ("cross", 0, none))
        self.assertEqual(found[2:], [[0, 2, 220, 1], [0, 0, 120, 1], [0, 0, 100, 0]])

    def test_marks_alike(self):
        text = ("settings", "buffer 400 rate 1 high 7 low 7")
        found = ask(text, *[("cross", asked, []) for asked in (1, 0, 0)])
        self.assertEqual([answer[1:] for answer in found[1:]], [[1, 8, 1], [0, 7, 0], [0, 6, 0]])

    def test_bytes_go_out_ahead_of_the_new_frame(self):
        text = ("settings", "buffer 8 rate 8 high 400 low 0")
        self.assertEqual(ask(text, *[("cross", 1, [])] * 3)[1:], [[0, 1, 8, 0]] * 3)

    def test_buffer_of_no_depth_loses_all(self):
        found = ask(("settings", "buffer 0 rate 0 high 0 low 0"), ("times", 5, 1, []), ("counts",))
        self.assertEqual(found[1:], [[0, 5, 0, 0], [0, 5, 0, 5, 0, 0, 0, 5, 0, 0, 0, 0]])

    def test_room_for_all_bytes_or_none(self):
        for depth, went in ((15, 1), (16, 2), (17, 2)):
            found = ask(("settings", f"buffer {depth} rate 0 high 400 low 0"), ("times", 4, 1, []), ("counts",))
            self.assertEqual(found[1], [0, 4, 8 * went, 0])
            self.assertEqual(found[2], [0, 4, 0, 4, 0, 0, went, 4 - went, 0, 0, 8 * went, 8 * went])

    def test_a_short_frame_goes_in_behind_a_lost_one(self):
        text = channels_text(2, "buffer 18 rate 0 high 400 low 0")
        found = ask(("settings", text), *[("cross", 1, row) for row in ([1, 1], [4095, 4095], [0, 0])], ("counts",))
        self.assertEqual([answer[1:] for answer in found[1:4]], [[1, 8, 0], [1, 8, 0], [1, 16, 0]])
        self.assertEqual(found[4][7:9], [1, 0])

    def test_rate_of_none(self):
        found = last(("settings", "buffer 400 rate 0 high 400 low 0"), ("times", 50, 1, []), ("counts",))
        self.assertEqual(found, [0, 50, 0, 50, 0, 0, 50, 0, 0, 0, 400, 400])


class Counts(unittest.TestCase):
    def test_new(self):
        self.assertEqual(ask(("counts",)), [[0] * 12])

    def test_each_number(self):
        text = "buffer 16 rate 1 high 8 low 3\ngap 1\nkeep 1 0"
        found = ask(
            ("settings", text), ("cross", 1, []), ("cross", 1, []), ("cross", 1, []), ("cross", 0, []),
            ("cross", 1, []), ("cross", 0, []), ("counts",),
        )
        became = [answer[1:] for answer in found[1:7]]
        self.assertEqual(became, [[1, 0, 0], [2, 8, 0], [1, 7, 0], [0, 14, 1], [3, 13, 1], [0, 12, 1]])
        self.assertEqual(found[7], [0, 6, 2, 2, 1, 1, 2, 0, 0, 4, 12, 14])

    def test_not_made_yet(self):
        found = ask(("settings", "keep 4 0"), ("times", 4, 1, []), ("counts",), ("cross", 0, []), ("counts",))
        self.assertEqual(found[2], [0, 4, 0, 4, 0, 0, 0, 0, 4, 0, 0, 0])
        self.assertEqual(found[4], [0, 5, 1, 4, 0, 0, 1, 0, 3, 0, 8, 8])

    def test_the_most_stays(self):
        found = last(("settings", "buffer 400 rate 8 high 400 low 0"), ("cross", 1, []), ("times", 3, 0, []), ("counts",))
        self.assertEqual(found, [0, 4, 3, 1, 0, 0, 1, 0, 0, 8, 0, 8])


class Times(unittest.TestCase):
    def test_like_so_many_crosses(self):
        text = channels_text(2, "buffer 60 rate 5 high 30 low 10\ngap 1\ndelay 2\nkeep 1 1")
        rows = [("counts",), ("wire", 0, 300), ("kept", 2), ("high", 1)]
        often = ask(("settings", text), ("times", 30, 1, [7, 0]), ("times", 5, 0, [0, 9]), *rows)
        once = ask(("settings", text), *[("cross", 1, [7, 0])] * 30, *[("cross", 0, [0, 9])] * 5, *rows)
        self.assertEqual(often[3:], once[36:])
        taken = len([answer for answer in once[1:31] if answer[1] == 1])
        self.assertEqual(often[1], [0, taken] + once[30][2:])
        self.assertEqual(often[2], [0, 0] + once[35][2:])

    def test_counts_these_alone(self):
        self.assertEqual(ask(("times", 3, 1, []), ("times", 2, 1, []), ("times", 1, 0, [])), [
            [0, 3, 8, 0], [0, 2, 8, 0], [0, 0, 0, 0],
        ])


if __name__ == "__main__":
    unittest.main()
