"""What is refused, with which number first, and that nothing has changed behind a refusal."""

import unittest

from tests.helper import ask, channels_text, last
from tests.model import frame

HEARD = frame(8, [9, None])
BEGUN = [
    ("settings", channels_text(2, "keep 1 1\ngap 1\nbuffer 60 rate 3 high 30 low 10")), ("times", 20, 1, [5, 0]),
    ("feed", HEARD + [128, 129] + HEARD[:4]),
]
SHOWN = [
    ("print",), ("counts",), ("wire", 0, 300), ("high", 1), ("high", 2), ("kept", 1), ("kept", 2), ("frame", 0),
    ("margin",), ("cross", 1, [1, 2]), ("counts",), ("wire", 0, 300), ("heard",), ("feed", HEARD[4:]), ("heard",),
    ("live",), ("dead",), ("state",), ("worst",), ("play", [10] * 30), ("pack", 1, [2, 2]),
]
FAR = 10 ** 18


class Refusals(unittest.TestCase):
    def refused(self, number, *calls):
        for call in calls:
            with self.subTest(call=call):
                found = ask(*BEGUN, call, *SHOWN)
                self.assertEqual(found[3], [number])
                self.assertEqual(found[4:], ask(*BEGUN, *SHOWN)[3:])

    def test_asked_out_of_range(self):
        for asked in (-1, 2, FAR, -FAR):
            self.refused(-1, ("cross", asked, [1, 2]), ("times", 5, asked, [1, 2]))
            self.refused(-1, ("cross", asked, [1]), ("times", 100, asked, [1]))

    def test_often_out_of_range(self):
        self.refused(-1, *[("times", often, 1, [1, 2]) for often in (-1, 0, 101, FAR, -FAR)])
        self.refused(-1, ("times", 101, 1, [1]))
        self.assertEqual(last(*BEGUN, ("times", 1, 0, [1, 2]))[:2], [0, 0])
        self.assertEqual(last(*BEGUN, ("times", 100, 0, [1, 2]))[:2], [0, 0])

    def test_samples_out_of_range(self):
        for samples in ([-1, 0], [0, 4096], [FAR, 0], [0, -FAR], [4096], [1] * 9, [1] * 1100, [0, 0, -1]):
            self.refused(-1, ("cross", 1, samples), ("times", 1, 0, samples))
        self.assertEqual(last(*BEGUN, ("cross", 0, [0, 4095]))[0], 0)

    def test_not_just_one_sample_for_each_channel(self):
        for samples in ([], [1], [1] * 3, [1] * 8):
            self.refused(-6, ("cross", 1, samples), ("times", 100, 0, samples))
        self.assertEqual(ask(("cross", 1, [0]), ("cross", 1, [])), [[-6], [0, 1, 8, 0]])

    def test_all_400_have_come(self):
        come = [("times", 100, 0, [])] * 3
        found = ask(
            *come, ("times", 99, 1, []), ("times", 2, 1, []), ("cross", 1, []), ("cross", 1, []),
            ("times", 1, 1, []), ("cross", 1, [1]), ("times", 1, 1, [1]), ("cross", 2, []), ("counts",),
        )
        self.assertEqual([answer[0] for answer in found[3:11]], [0, -4, 0, -4, -4, -6, -6, -1])
        self.assertEqual(found[11][1:4], [400, 300, 100])

    def test_the_401st_by_times(self):
        come = [("times", 100, 1, [])] * 4
        found = ask(*come, ("counts",), ("times", 1, 0, []), ("times", 100, 1, []), ("counts",))
        self.assertEqual(found[5:7], [[-4], [-4]])
        self.assertEqual(found[4], found[7])
        found = ask(*come[1:], ("times", 50, 1, []), ("times", 51, 1, []), ("times", 50, 1, []))
        self.assertEqual([answer[0] for answer in found], [0, 0, 0, 0, -4, 0])

    def test_400_more_behind_new_settings(self):
        come = [("times", 100, 0, [])] * 4
        self.assertEqual([answer[0] for answer in ask(*come, ("settings", ""), *come)], [0] * 9)

    def test_channels(self):
        for call in ("kept", "high"):
            self.refused(-1, *[(call, channel) for channel in (0, -1, 9, FAR, -FAR)])
            self.refused(-5, *[(call, channel) for channel in (3, 8)])
            self.assertEqual(ask((call, 1)), [[-5]])
            self.assertEqual(last(("settings", channels_text(8)), (call, 8)), [0, 0])

    def test_wire_and_frame(self):
        self.refused(-1, ("wire", -1, 5), ("wire", 20001, 5), ("wire", 0, -1), ("wire", 0, 301))
        self.refused(-1, ("frame", -1), ("frame", 4096))
        self.refused(-5, ("frame", 20), ("frame", 4095))
        self.refused(-7, ("frame", 1), ("frame", 19))

    def test_frame_not_known(self):
        found = ask(*BEGUN, ("cross", 0, [0, 0]), ("cross", 1, [1, 1]), ("frame", 21))
        self.assertEqual(found[4][:2], [0, 1])
        self.assertEqual(found[5], [-8])

    def test_texts(self):
        self.refused(-3, ("settings", "gap"), ("settings", channels_text(9)))
        self.refused(-1, ("settings", [256]), ("settings", [32] * 1001), ("check", [-1]), ("check", [10] * 1100))

    def test_yields(self):
        self.refused(-1, *[("play", row) for row in ([-1], [101], [12, FAR], [0] * 501, [12] * 1100)])
        self.refused(-9, *[("play", row) for row in ([12], [100], [11] * 499 + [12])])

    def test_pairs(self):
        self.refused(-1, *[("pack", crossing, [3, 1]) for crossing in (-1, 4096, FAR, -FAR)])
        self.refused(-1, *[("pack", 0, row) for row in ([1], [1, 4096], [0, 1], [9, 1], [1, -1], [1, 1] * 9, [2] * 1100)])
        self.refused(-5, *[("pack", 0, row) for row in ([3, 0], [8, 0], [1, 0, 3, 0], [3, 0, 1, 0], [3, 0, 3, 0])])
        self.refused(-7, *[("pack", 0, row) for row in ([2, 0, 1, 0], [1, 0, 1, 0], [1, 0, 2, 0, 2, 0])])

    def test_bytes_and_signs(self):
        self.refused(-1, *[("feed", row) for row in ([-1], [256], [129, FAR], HEARD + [256], [129] * 401, [1] * 1100)])
        self.refused(-1, *[("crc", row) for row in ([-1], [128], [0, FAR], [0] * 101, [1] * 1100)])


if __name__ == "__main__":
    unittest.main()
