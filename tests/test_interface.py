"""frontends.crossings.answers: how calls and answers lie, and that nothing is changed or kept."""

import unittest

import frontends.crossings
from tests.helper import channels_text, laid
from tests.model import frame

MIXED = laid([
    ("settings", channels_text(2, "keep 1 0")), ("print",), ("check", "gap x"), ("times", 30, 1, [9, 0]),
    ("cross", 1, [1, 1]), ("cross", 1, [1]), ("wire", 3, 20), ("kept", 1), ("high", 2), ("counts",), ("frame", 3),
    ("frame", 30), ("margin",), ("settings", [300]), ("settings", "keep"), ("worst",), ("play", [9, 0, 9]),
    ("play", [99]), ("pack", 7, [1, 0, 2, 70]), ("pack", 7, [2, 0, 1, 70]), ("feed", frame(5, [None, 3]) + [128, 1]),
    ("feed", [128]), ("heard",), ("crc", [1, 2, 3]), ("crc", [128]), ("hush",), ("heard",), ("live",), ("dead",),
    ("state",), ("feed", frame(5, [1, 2])[:5]),
])


class Interface(unittest.TestCase):
    def test_calls_lie_one_behind_another(self):
        calls = [0, 5, 103, 97, 112, 32, 50, 1, 0, 3, 1, 0, 4, 2, 1, 0, 5, 0, 3, 6, 1, 7, 9, 8, 9, 0, 10, 2]
        self.assertEqual(frontends.crossings.answers(calls), [
            3, 0, 0, 8, 3, 0, 0, 0, 4, 0, 1, 8, 0, 4, 0, 0, 0, 0,
            5, 0, 3, 128, 3, 0, 1, -5, 1, -1, 12, 0, 3, 0, 1, 2, 0, 1, 0, 0, 8, 0, 8,
            10, 0, 1, 128, 3, 0, 0, 0, 123, 38, 129, 4, 0, 8, 400, 1, 7, 0, 103, 97, 112, 32, 50, 10,
        ])

    def test_later_calls_lie_one_behind_another(self):
        calls = [11, 12, 2, 8, 3, 13, 5, 0, 14, 9, 129, 128, 3, 0, 0, 0, 123, 38, 129, 14, 1, 128, 15, 16, 1, 1, 17]
        calls += [15, 3, 1, 0, 18, 19, 20, 12, 1, 9, 13, 0, 2, 1, 5, 14, 0, 10]
        self.assertEqual(frontends.crossings.answers(calls), [
            3, 0, 1, 8, 4, 0, 8, 0, 3, 9, 0] + frame(5, []) + [5, 0, 1, 0, 0, 0, 3, 0, 0, 0, 4, 0, 1, 0, 0,
            3, 0, 8, 67, 1, 0, 4, 0, 0, 0, -1, 4, 0, 1, 8, 0, 3, 0, 1, 1, 2, 0, 0,
            11, 0, 0, 0, 0, 400, 20, 200, 100, 0, 0, 1, 1, -9, 1, -5, 3, 0, 0, 0, 4, 0, 8, 400, 1,
        ])

    def test_rows_of_any_length_are_stepped_over(self):
        for length in (0, 1, 8, 9, 100, 101, 400, 401, 500, 501, 1000, 1001, 1100):
            for number, before in ((0, []), (1, []), (3, [1]), (4, [1, 1]), (12, []), (13, [1]), (14, []), (16, [])):
                calls = [number] + before + [length] + [-5] * length + [10]
                self.assertEqual(frontends.crossings.answers(calls)[-5:], [4, 0, 8, 400, 1])

    def test_whole_numbers_alone_are_given_back(self):
        found = frontends.crossings.answers(MIXED)
        self.assertIs(type(found), list)
        self.assertEqual({type(number) for number in found}, {int})

    def test_what_is_handed_in_is_not_changed(self):
        calls = list(MIXED)
        frontends.crossings.answers(calls)
        self.assertEqual(calls, MIXED)

    def test_nothing_is_kept(self):
        first = frontends.crossings.answers(MIXED)
        self.assertEqual(frontends.crossings.answers(MIXED), first)
        self.assertEqual(frontends.crossings.answers([8, 2]), [12] + [0] * 12 + [1, 0])
        self.assertEqual(frontends.crossings.answers([15, 18, 19]), [4, 0, 0, 0, -1, 3, 0, 0, 1, 2, 0, 0])
        first.clear()
        self.assertNotEqual(frontends.crossings.answers(MIXED), [])

    def test_120_calls(self):
        self.assertEqual(frontends.crossings.answers([10] * 120), [4, 0, 8, 400, 1] * 120)

    def test_16000_numbers(self):
        calls = [14, 400] + [128, 129] * 200
        self.assertEqual(frontends.crossings.answers(calls * 39 + [15]), [3, 0, 0, 200] * 39 + [4, 0, 0, 7800, -1])


if __name__ == "__main__":
    unittest.main()
