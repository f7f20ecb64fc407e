"""Calls 13 pack, 16 crc: a frame's bytes from what it tells, and the check of any row of signs."""

import random
import unittest

from tests.helper import ask, channels_text, in_lists, last
from tests.model import check, frame

FAR = 10 ** 18


def pack(count, crossing, pairs):
    return last(("settings", channels_text(count)), ("pack", crossing, pairs))


class Pack(unittest.TestCase):
    def test_written_out(self):
        # Crossing 5, channels 1 and 3 of 3, width 3, samples 2 and 7: 000000000101 101 0011 010 111 and 3 zero bits.
        signs = [0b0000000, 0b0010110, 0b1001101, 0b0111000]
        self.assertEqual(pack(3, 5, [1, 2, 3, 7]), [0, 128, 4] + signs + check([4] + signs) + [129])

    def test_no_pairs(self):
        for count in range(9):
            self.assertEqual(pack(count, 7, []), [0] + frame(7, [None] * count))
        self.assertEqual(ask(("pack", 0, [])), [[0, 128, 3, 0, 0, 0, 123, 38, 129]])

    def test_8_pairs(self):
        pairs = [number for channel in range(1, 9) for number in (channel, 4088 + channel - 1)]
        self.assertEqual(pack(8, 4095, pairs), [0] + frame(4095, list(range(4088, 4096))))
        self.assertEqual(len(pack(8, 4095, pairs)), 1 + 23)

    def test_samples_all_0(self):
        self.assertEqual(pack(2, 0, [1, 0, 2, 0]), [0, 128, 3, 0, 3, 0] + check([3, 0, 3, 0]) + [129])
        self.assertEqual(pack(8, 9, [3, 0]), [0] + frame(9, [None, None, 0] + [None] * 5))

    def test_crossings_at_their_ends(self):
        for crossing in (0, 1, 2047, 2048, 4095):
            self.assertEqual(pack(1, crossing, [1, 6]), [0] + frame(crossing, [6]))

    def test_each_single_channel(self):
        for channel in range(1, 9):
            told = [None] * 8
            told[channel - 1] = 1000
            self.assertEqual(pack(8, 300, [channel, 1000]), [0] + frame(300, told))

    def test_the_frame_that_a_crossing_makes(self):
        text = "channel a pedestal 0 on 9 off 9\nchannel b pedestal 0 on 9 off 9\nkeep 0 1"
        rows = [("cross", 1, [9, 3]), ("cross", 1, [4, 8]), ("cross", 1, [0, 0])]
        found = ask(
            ("settings", text), *rows, ("frame", 0), ("frame", 1), ("frame", 2),
            ("pack", 0, [1, 9]), ("pack", 1, [1, 4]), ("pack", 2, []),
        )
        self.assertEqual([[0, 1] + answer[1:] for answer in found[7:]], found[4:7])

    def test_many(self):
        rng = random.Random(4)
        for count in range(9):
            calls, due = [], []
            for _ in range(100):
                crossing, top = rng.randint(0, 4095), rng.choice([0, 1, 9, 700, 4095])
                told = [rng.choice([None, rng.randint(0, top)]) for _ in range(count)]
                pairs = [n for channel, sample in enumerate(told, start=1) if sample is not None for n in (channel, sample)]
                calls.append(("pack", crossing, pairs))
                due.append([0] + frame(crossing, told))
            self.assertEqual(in_lists(calls, [("settings", channels_text(count))]), due)

    def test_out_of_range(self):
        for crossing in (-1, 4096, FAR, -FAR):
            self.assertEqual(pack(2, crossing, []), [-1])
        for channel in (0, -1, 9, FAR, -FAR):
            self.assertEqual(pack(8, 0, [channel, 5]), [-1])
            self.assertEqual(pack(8, 0, [1, 5, channel, 5]), [-1])
        for sample in (-1, 4096, FAR, -FAR):
            self.assertEqual(pack(2, 0, [1, sample]), [-1])
            self.assertEqual(pack(2, 0, [1, 0, 2, sample]), [-1])

    def test_odd_rows_and_rows_too_long(self):
        pairs = [number for channel in range(1, 9) for number in (channel, 0)]
        self.assertEqual(pack(8, 0, pairs)[0], 0)
        for length in (1, 3, 15):
            self.assertEqual(pack(8, 0, pairs[:length]), [-1])
        self.assertEqual(pack(8, 0, pairs + [8]), [-1])
        self.assertEqual(pack(8, 0, pairs + [8, 0]), [-1])
        self.assertEqual(pack(8, 0, [1] * 1100), [-1])

    def test_no_such_channel(self):
        self.assertEqual(ask(("pack", 0, [1, 5])), [[-5]])
        for count in range(8):
            self.assertEqual(pack(count, 0, [count + 1, 5]), [-5])
            self.assertEqual(pack(count, 0, [8, 5]), [-5])
        self.assertEqual(pack(2, 0, [1, 0, 2, 0, 3, 0]), [-5])

    def test_channels_that_do_not_rise(self):
        for pairs in ([1, 5, 1, 5], [2, 5, 1, 5], [1, 0, 2, 0, 2, 0], [1, 0, 3, 0, 2, 0], [3, 0, 1, 0, 2, 0]):
            self.assertEqual(pack(3, 0, pairs), [-7])

    def test_refused_in_order(self):
        # Both: no such channel, and they don't rise.
        for pairs in ([3, 0, 1, 0], [3, 0, 3, 0], [1, 0, 1, 0, 3, 0]):
            self.assertEqual(pack(2, 0, pairs), [-5])
        for pairs in ([3, 0, 1, 4096], [2, 0, 1, -1], [3, 0, 1], [2, 0, 2, 0, 9, 0], [3, 0] * 9):
            self.assertEqual(pack(2, 0, pairs), [-1])
        self.assertEqual(pack(2, 4096, [3, 0, 1, 0]), [-1])


class Crc(unittest.TestCase):
    def test_no_signs(self):
        self.assertEqual(ask(("crc", [])), [[0, 0, 0]])

    def test_written_out(self):
        self.assertEqual(ask(("crc", [0])), [[0, 0, 0]])
        # 1 and 14 zero bits, less 100010001000011.
        self.assertEqual(ask(("crc", [1])), [[0, 0b0001000, 0b1000011]])
        # 10 and 14 zero bits are twice as much.
        self.assertEqual(ask(("crc", [2])), [[0, 0b0010001, 0b0000110]])
        self.assertEqual(ask(("crc", [3])), [[0, 0b0011001, 0b1000101]])

    def test_signs_of_0_ahead_change_nothing(self):
        self.assertEqual(ask(("crc", [0, 0, 77])), ask(("crc", [77])))

    def test_the_check_itself_leaves_nothing(self):
        signs = [3, 127, 0, 64]
        self.assertEqual(ask(("crc", signs + check(signs))), [[0, 0, 0]])

    def test_many(self):
        rng = random.Random(1)
        rows = [[rng.randint(0, 127) for _ in range(rng.choice([1, 2, 3, 20, 99, 100]))] for _ in range(200)]
        rows += [[sign] for sign in range(128)]
        self.assertEqual(in_lists([("crc", row) for row in rows], []), [[0] + check(row) for row in rows])

    def test_the_check_of_a_frame(self):
        made = pack(3, 77, [2, 900])[1:]
        self.assertEqual(last(("crc", made[1:-3])), [0] + made[-3:-1])

    def test_out_of_range(self):
        self.assertEqual(ask(("crc", [127] * 100)), [[0] + check([127] * 100)])
        for row in ([128], [-1], [0, FAR], [-FAR, 0], [0] * 101, [1] * 1100):
            self.assertEqual(ask(("crc", row)), [[-1]])


if __name__ == "__main__":
    unittest.main()
