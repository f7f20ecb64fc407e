"""Calls 5 wire and 9 frame: a frame's bits, signs, check and bytes, and the wire."""

import unittest

from tests.helper import ask, channels_text, last
from tests.model import check, frame


def made(text, *rows, crossing=0):
    return last(("settings", text), *[("cross", 1, list(row)) for row in rows], ("frame", crossing))


class Frame(unittest.TestCase):
    def test_written_out(self):
        # Crossing 0, one channel kept, width 5, sample 16: 000000000000 1 0101 10000 and 6 zero bits.
        signs = [0b0000000, 0b0000010, 0b1011000, 0b0000000]
        self.assertEqual(made(channels_text(1), [16]), [0, 1, 128, 4] + signs + check([4] + signs) + [129])

    def test_check_written_out(self):
        # 128 * 2 ** 7 = 2 ** 14 is what is left of 1 with 14 zero bits: 10001000011.
        self.assertEqual(check([1]), [0b0001000, 0b1000011])
        # No channels: 000000000000 0000 and 5 zero bits are three signs of 0 behind the 3.
        rest = 0b11
        for step in range(14 + 21):
            rest = rest << 1
            rest = rest ^ 0b100010001000011 if rest >> 14 else rest
        self.assertEqual(made("", []), [0, 1, 128, 3, 0, 0, 0, rest >> 7, rest & 127, 129])

    def test_no_kept_sample(self):
        found = made("channel a pedestal 0 on 9 off 9\nchannel b pedestal 0 on 9 off 9", [8, 0])
        signs = [0, 0, 0]
        self.assertEqual(found, [0, 1, 128, 3] + signs + check([3] + signs) + [129])

    def test_samples_all_zero(self):
        found = made("channel a pedestal 0 on 0 off 0\nchannel b pedestal 0 on 0 off 0", [0, 0])
        signs = [0, 0b0000011, 0]
        self.assertEqual(found, [0, 1, 128, 3] + signs + check([3] + signs) + [129])

    def test_the_sample_not_the_signal_is_told(self):
        self.assertEqual(made("channel a pedestal 100 on 1 off 1", [101]), [0, 1] + frame(0, [101]))

    def test_widths(self):
        for width in range(13):
            least, most = (1 << width) // 2, (1 << width) - 1
            for sample in (least, most):
                found = made("channel a pedestal 0 on 0 off 0", [sample])
                self.assertEqual(found, [0, 1] + frame(0, [sample]))
                self.assertEqual(found[3], -(-(17 + width) // 7))

    def test_the_greatest_kept_sample_makes_the_width(self):
        text = "channel a pedestal 0 on 0 off 0\nchannel b pedestal 4095 on 1 off 1\nchannel c pedestal 0 on 0 off 0"
        self.assertEqual(made(text, [3, 4095, 40]), [0, 1] + frame(0, [3, None, 40]))

    def test_the_longest(self):
        found = made(channels_text(8), [4095] * 8)
        self.assertEqual(found, [0, 1] + frame(0, [4095] * 8))
        self.assertEqual(len(found), 2 + 23)

    def test_crossing_number(self):
        text = "buffer 400 rate 50 high 400 low 0"
        calls = [("settings", text)] + [("times", 100, 1, [])] * 4
        found = ask(*calls, *[("frame", crossing) for crossing in (0, 1, 127, 128, 399)])
        self.assertEqual(found[5:], [[0, 1] + frame(crossing, []) for crossing in (0, 1, 127, 128, 399)])

    def test_samples_kept_ahead_and_behind(self):
        text = channels_text(1, "keep 1 1").replace("on 1 off 1", "on 50 off 50")
        rows = [[10], [11], [60], [12], [13], [14]]
        told = [None, 11, 60, 12, None]
        for crossing, sample in enumerate(told):
            self.assertEqual(made(text, *rows, crossing=crossing), [0, 1] + frame(crossing, [sample]))
        self.assertEqual(made(text, *rows, crossing=5), [-8])

    def test_lost(self):
        text = "buffer 8 rate 0 high 400 low 0"
        found = ask(("settings", text), ("times", 2, 1, []), ("frame", 0), ("frame", 1))
        self.assertEqual(found[2:], [[0, 1] + frame(0, []), [0, 0] + frame(1, [])])

    def test_refusals(self):
        text = "keep 2 0\ngap 1"
        calls = [("settings", text), ("times", 5, 1, []), ("cross", 0, [])]
        numbers = [-1, 4096, 10 ** 18, -10 ** 18, 6, 4095, 1, 3, 5, 4, 0, 2]
        found = ask(*calls, *[("frame", number) for number in numbers])
        self.assertEqual(found[3:-2], [[-1]] * 4 + [[-5]] * 2 + [[-7]] * 3 + [[-8]])
        self.assertEqual(found[-2:], [[0, 1] + frame(0, []), [0, 1] + frame(2, [])])

    def test_refused_in_order(self):
        # Crossing 1 wasn't taken and isn't known either.
        self.assertEqual(last(("settings", "keep 4 0"), ("times", 2, 0, []), ("frame", 1)), [-7])
        self.assertEqual(ask(("frame", 0)), [[-5]])


class Wire(unittest.TestCase):
    text = "buffer 400 rate 3 high 400 low 0"

    def test_oldest_first(self):
        found = ask(("settings", self.text), ("times", 3, 1, []), ("times", 4, 0, []), ("wire", 0, 300))
        self.assertEqual(found[3], [0, 18] + (frame(0, []) + frame(1, []) + frame(2, []))[:18])

    def test_nothing_gone_out(self):
        self.assertEqual(ask(("wire", 0, 300), ("cross", 1, []), ("wire", 0, 300)), [[0, 0], [0, 1, 8, 0], [0, 0]])

    def test_behind_the_first_and_at_most(self):
        calls = [("settings", self.text), ("times", 3, 1, []), ("times", 4, 0, [])]
        gone = (frame(0, []) + frame(1, []) + frame(2, []))[:18]
        for i, k in ((0, 0), (0, 5), (3, 5), (17, 5), (17, 1), (18, 5), (19, 5), (20000, 300), (5, 300), (13, 5)):
            part = gone[i:i + k]
            self.assertEqual(last(*calls, ("wire", i, k)), [0, len(part)] + part)

    def test_what_is_in_the_buffer_is_not_on_the_wire(self):
        found = ask(("settings", self.text), ("times", 2, 1, []), ("wire", 0, 300))
        self.assertEqual(found[1:], [[0, 2, 13, 0], [0, 3] + frame(0, [])[:3]])

    def test_lost_frames_never_go_out(self):
        found = ask(
            ("settings", "buffer 8 rate 1 high 400 low 0"), ("times", 9, 1, []), ("times", 20, 0, []),
            ("wire", 0, 300), ("counts",),
        )
        self.assertEqual(found[3], [0, 16] + frame(0, []) + frame(8, []))
        self.assertEqual(found[4][6:9], [2, 7, 0])

    def test_the_most_that_goes_out(self):
        text = channels_text(8, "buffer 400 rate 50 high 400 low 400")
        calls = [("settings", text)] + [("times", 100, 1, [4095] * 8)] * 4
        gone = [byte for crossing in range(399) for byte in frame(crossing, [4095] * 8)]
        found = ask(*calls, *[("wire", i, 300) for i in range(0, 9300, 300)], ("counts",))
        self.assertEqual([byte for answer in found[5:-1] for byte in answer[2:]], gone)
        self.assertEqual(found[-1][9:], [23 * 399, 23, 23])

    def test_numbers_out_of_range(self):
        for i, k in ((-1, 0), (20001, 0), (0, -1), (0, 301), (10 ** 18, 0), (0, -10 ** 18)):
            self.assertEqual(ask(("wire", i, k)), [[-1]])
        self.assertEqual(ask(("wire", 20000, 300)), [[0, 0]])


if __name__ == "__main__":
    unittest.main()
