"""Calls 14 feed, 15 heard, 17 hush: frames read out of bytes, whole, damaged, and in pieces."""

import random
import unittest

from tests.helper import ask, channels_text, last
from tests.model import check, frame, heard, told_by

FAR = 10 ** 18


def sealed(signs, count=None):
    """Bytes with a right check round any signs."""
    checked = [len(signs) if count is None else count] + signs
    return [128] + checked + check(checked) + [129]


def of_bits(bits):
    bits = bits.replace(" ", "")
    return sealed([int(bits[n:n + 7], 2) for n in range(0, len(bits), 7)])


def fed(count, *rows):
    """What each row of bytes answers, and then heard."""
    return ask(("settings", channels_text(count)), *[("feed", row) for row in rows], ("heard",))[1:]


class Feed(unittest.TestCase):
    def test_a_frame(self):
        self.assertEqual(fed(3, frame(77, [5, None, 4000])), [[0, 1, 77, 2, 1, 5, 3, 4000, 0], [0, 1, 0, -1]])

    def test_no_bytes(self):
        self.assertEqual(ask(("heard",), ("feed", []), ("heard",)), [[0, 0, 0, -1], [0, 0, 0], [0, 0, 0, -1]])

    def test_a_new_object_has_no_channels(self):
        self.assertEqual(ask(("feed", frame(3, [])), ("feed", frame(3, [5])), ("feed", frame(3, [0]))), [
            [0, 1, 3, 0, 0], [0, 0, 1], [0, 0, 1],
        ])

    def test_frames_without_samples(self):
        for count in range(9):
            for crossing in (0, 4095):
                found = fed(count, frame(crossing, [None] * count))
                self.assertEqual(found, [[0, 1, crossing, 0, 0], [0, 1, 0, -1]])

    def test_samples_all_0(self):
        self.assertEqual(fed(2, frame(1, [0, 0]))[0], [0, 1, 1, 2, 1, 0, 2, 0, 0])
        self.assertEqual(fed(8, frame(1, [None] * 7 + [0]))[0], [0, 1, 1, 1, 8, 0, 0])

    def test_samples_of_every_width(self):
        for width in range(13):
            for sample in {(1 << width) // 2, (1 << width) - 1}:
                self.assertEqual(fed(2, frame(9, [None, sample]))[0], [0, 1, 9, 1, 2, sample, 0])
                self.assertEqual(fed(2, frame(9, [0, sample]))[0], [0, 1, 9, 2, 1, 0, 2, sample, 0])

    def test_8_samples(self):
        samples = [4095, 0, 1, 2048, 77, 4094, 3, 4095]
        pairs = [n for pair in enumerate(samples, start=1) for n in pair]
        self.assertEqual(fed(8, frame(4095, samples))[0], [0, 1, 4095, 8] + pairs + [0])

    def test_several_frames(self):
        row = frame(1, [5]) + frame(2, [None]) + frame(1, [6])
        self.assertEqual(fed(1, row), [[0, 3, 1, 1, 1, 5, 2, 0, 1, 1, 1, 6, 0], [0, 3, 0, -1]])

    def test_in_single_bytes(self):
        octets = frame(300, [700, None])
        found = fed(2, *[[octet] for octet in octets])
        self.assertEqual(found[:-2], [[0, 0, 0]] * (len(octets) - 1))
        self.assertEqual(found[-2:], [[0, 1, 300, 1, 1, 700, 0], [0, 1, 0, -1]])

    def test_across_several_feeds(self):
        octets = frame(300, [700]) + frame(301, [None])
        for first in range(len(octets) + 1):
            for second in range(first, len(octets) + 1):
                found = fed(1, octets[:first], octets[first:second], octets[second:])
                self.assertEqual(sum(answer[1] for answer in found[:3]), 2)
                told = [number for answer in found[:3] for number in answer[2:-1]]
                self.assertEqual(told, [300, 1, 1, 700, 301, 0])
                self.assertEqual(found[3], [0, 2, 0, -1])

    def test_empty_feeds_between(self):
        octets = frame(300, [700])
        found = fed(1, octets[:4], [], octets[4:], [])
        self.assertEqual(found, [[0, 0, 0], [0, 0, 0], [0, 1, 300, 1, 1, 700, 0], [0, 0, 0], [0, 1, 0, -1]])

    def test_a_frame_read_again(self):
        self.assertEqual(fed(0, frame(3, []), frame(3, []))[2], [0, 2, 0, -1])

    def test_400_bytes(self):
        row = frame(3, []) * 50
        self.assertEqual(fed(0, row), [[0, 50] + [3, 0] * 50 + [0], [0, 50, 0, -1]])
        self.assertEqual(fed(0, [128] * 400), [[0, 0, 399], [0, 0, 399, 0]])
        self.assertEqual(fed(0, [128, 129] * 200), [[0, 0, 200], [0, 0, 200, -1]])

    def test_many_bytes_in_all(self):
        found = ask(("feed", [128]), *[("feed", [1] * 400)] * 37, ("heard",), ("feed", [129]), ("heard",))
        self.assertEqual(found[-3:], [[0, 0, 0, 14800], [0, 0, 1], [0, 0, 1, -1]])


class Begun(unittest.TestCase):
    def test_how_many_bytes_stand_in_it(self):
        octets = frame(300, [700])
        for length in range(1, len(octets)):
            self.assertEqual(fed(1, octets[:length])[1], [0, 0, 0, length - 1])
        self.assertEqual(fed(1, [128, 255, 0, 130])[1], [0, 0, 0, 3])

    def test_128_makes_the_begun_one_bad_and_begins_anew(self):
        octets = frame(3, [5])
        for length in range(1, len(octets)):
            found = fed(1, octets[:length] + octets)
            self.assertEqual(found, [[0, 1, 3, 1, 1, 5, 1], [0, 1, 1, -1]])
            found = fed(1, octets[:length], octets[:length], octets[length:])
            self.assertEqual(found, [[0, 0, 0], [0, 0, 1], [0, 1, 3, 1, 1, 5, 0], [0, 1, 1, -1]])

    def test_129_where_none_is_begun(self):
        octets = frame(3, [5])
        self.assertEqual(fed(1, [129, 129] + octets + [129]), [[0, 1, 3, 1, 1, 5, 0], [0, 1, 0, -1]])
        self.assertEqual(fed(1, octets[1:]), [[0, 0, 0], [0, 0, 0, -1]])

    def test_bytes_where_none_is_begun(self):
        octets = frame(3, [5])
        others = [octet for octet in range(256) if octet != 128]
        found = fed(1, others, octets, others)
        self.assertEqual(found, [[0, 0, 0], [0, 1, 3, 1, 1, 5, 0], [0, 0, 0], [0, 1, 0, -1]])

    def test_129_straight_behind_128(self):
        self.assertEqual(fed(0, [128, 129]), [[0, 0, 1], [0, 0, 1, -1]])

    def test_bytes_130_to_255_are_never_right(self):
        octets = frame(3, [5])
        for wrong in (130, 131, 192, 254, 255):
            for place in range(1, len(octets)):
                found = fed(1, octets[:place] + [wrong] + octets[place:])
                self.assertEqual(found, [[0, 0, 1], [0, 0, 1, -1]])
        # Bytes that hold a right frame's signs in their lower seven bits.
        for place in range(1, len(octets) - 1):
            if octets[place] > 1:
                found = fed(1, octets[:place] + [octets[place] + 128] + octets[place + 1:])
                self.assertEqual(found, [[0, 0, 1], [0, 0, 1, -1]])

    def test_all_begun_ones_that_turn_out_bad_count(self):
        good = frame(3, [5])
        row = [128, 1] + [128, 129] + good + [128, 3, 129] + [7] + [128]
        self.assertEqual(fed(1, row, [129], row), [
            [0, 1, 3, 1, 1, 5, 3], [0, 0, 1], [0, 1, 3, 1, 1, 5, 3], [0, 2, 7, 0],
        ])


class Wrong(unittest.TestCase):
    """Frames whose check is right, but which no frame of so many channels has."""

    def bad(self, count, *rows):
        for row in rows:
            with self.subTest(row=row):
                self.assertEqual(fed(count, row), [[0, 0, 1], [0, 0, 1, -1]])

    def read(self, count, row, *told):
        self.assertEqual(fed(count, row), [[0, 1] + list(told) + [0], [0, 1, 0, -1]])

    def test_right_as_these_are_made(self):
        self.read(1, of_bits("000000000011 1 0010 10 00"), 3, 1, 1, 2)
        self.read(2, of_bits("000000000011 01 0010 10 0"), 3, 1, 2, 2)
        self.read(1, of_bits("000000000011 1 1100 111111111111 000000"), 3, 1, 1, 4095)

    def test_width_that_is_not_the_fewest(self):
        self.bad(1, of_bits("000000000011 1 0011 010 0"), of_bits("000000000011 1 0001 0 000"))
        self.bad(1, of_bits("000000000011 1 1100 011111111111 000000"))
        self.bad(2, of_bits("000000000011 11 0011 011 001 0000"))
        # None is kept, and yet a width.
        self.bad(1, of_bits("000000000011 0 0001 0000"), of_bits("000000000011 0 1100 0000"))
        self.bad(0, of_bits("000000000011 0001 00000"))
        self.read(2, of_bits("000000000011 11 0011 011 100 0000"), 3, 2, 1, 3, 2, 4)

    def test_width_above_12(self):
        for width in (13, 14, 15):
            for top in (0, 1, 1 << (width - 1), (1 << width) - 1):
                bits = f"0000000000111{width:04b}{top:0{width}b}"
                self.bad(1, of_bits(bits + "0" * (-len(bits) % 7)))
            self.bad(1, of_bits(f"0000000000110{width:04b}0000"))
            bits = f"000000000011{'1' * 8}{width:04b}{'1' * (8 * width)}"
            self.bad(8, of_bits(bits + "0" * (-len(bits) % 7)))

    def test_filling_bits_that_are_not_0(self):
        self.bad(1, of_bits("000000000011 1 0010 10 01"), of_bits("000000000011 1 0010 10 10"))
        self.bad(0, of_bits("000000000011 0000 00001"), of_bits("000000000011 0000 10000"))

    def test_signs_too_many(self):
        for count in range(9):
            signs = frame(3, [9] * count)[2:-3]
            self.bad(count, sealed(signs + [0]), sealed(signs + [0, 0]), sealed(signs + [1]), sealed([0] + signs))
        self.bad(0, sealed([0] * 100), sealed([0] * 127))

    def test_signs_too_few(self):
        for count in range(9):
            signs = frame(0, [0] * count)[2:-3]
            for length in range(len(signs)):
                self.bad(count, sealed(signs[:length]), sealed([0] * length))
        signs = frame(3, [4095] * 8)[2:-3]
        for length in range(len(signs)):
            self.bad(8, sealed(signs[:length]))
        # The first of two samples has room, the second lacks.
        self.bad(2, of_bits("000000000011 11 0011 100"))

    def test_count_that_is_not_so_many(self):
        signs = frame(3, [5])[2:-3]
        for count in (0, 1, len(signs) - 1, len(signs) + 1, len(signs) + 2, 127):
            self.bad(1, sealed(signs, count))

    def test_check_that_is_wrong_or_lacks(self):
        octets = frame(3, [5])
        for place in (-3, -2):
            for flip in (1, 2, 64, 127):
                changed = list(octets)
                changed[place] ^= flip
                self.bad(1, changed)
        self.bad(1, octets[:-3] + [129], octets[:-2] + [129], octets[:-1] + [0, 129], octets[:-3] + [0, 0] + octets[-3:])

    def test_few_bytes(self):
        for inside in ([], [0], [3], [0, 0], [0, 0, 0], [1, 0], [0] + check([0]), [1, 0] + check([1, 0])):
            self.bad(0, [128] + inside + [129])

    def test_another_number_of_channels(self):
        octets = frame(3, [5, 6, 7])
        for count in range(9):
            found = fed(count, octets)[0]
            self.assertEqual(found, [0, 1, 3, 3, 1, 5, 2, 6, 3, 7, 0] if count == 3 else [0, 0, 1])

    def test_a_frame_that_more_numbers_of_channels_have(self):
        # Twelve bits and nine zero bits: no sample of up to five channels.
        for count in range(9):
            self.assertEqual(fed(count, frame(3, []))[0], [0, 1, 3, 0, 0] if count <= 5 else [0, 0, 1])


class Anew(unittest.TestCase):
    octets = frame(3, [5])

    def test_hush(self):
        begun = [("settings", channels_text(1)), ("feed", self.octets + [128, 129] + self.octets[:4]), ("heard",)]
        found = ask(*begun, ("hush",), ("heard",), ("feed", self.octets[4:]), ("feed", self.octets), ("heard",))
        self.assertEqual(found[2:], [
            [0, 1, 1, 3], [0], [0, 0, 0, -1], [0, 0, 0], [0, 1, 3, 1, 1, 5, 0], [0, 1, 0, -1],
        ])

    def test_hush_leaves_all_else_alone(self):
        come = [("settings", channels_text(1, "keep 1 0")), ("times", 9, 1, [5])]
        shown = [("print",), ("counts",), ("state",), ("live",), ("dead",), ("wire", 0, 300), ("cross", 1, [5])]
        self.assertEqual(ask(*come, ("hush",), *shown)[3:], ask(*come, *shown)[2:])

    def test_settings(self):
        begun = [("settings", channels_text(1)), ("feed", self.octets + [128, 129] + self.octets[:4])]
        found = ask(*begun, ("settings", channels_text(1)), ("heard",), ("feed", self.octets[4:]), ("heard",))
        self.assertEqual(found[3:], [[0, 0, 0, -1], [0, 0, 0], [0, 0, 0, -1]])

    def test_settings_with_another_number_of_channels(self):
        two = frame(9, [None, 4000])
        found = ask(
            ("settings", channels_text(1)), ("feed", self.octets), ("feed", two),
            ("settings", channels_text(2)), ("feed", self.octets), ("feed", two), ("heard",), ("hush",), ("feed", two),
        )
        self.assertEqual(found[1:3], [[0, 1, 3, 1, 1, 5, 0], [0, 0, 1]])
        self.assertEqual(found[4:7], [[0, 0, 1], [0, 1, 9, 1, 2, 4000, 0], [0, 1, 1, -1]])
        self.assertEqual(found[8], [0, 1, 9, 1, 2, 4000, 0])

    def test_refused_settings_and_check_leave_it_alone(self):
        begun = [("settings", channels_text(1)), ("feed", self.octets + [128, 129] + self.octets[:4])]
        for call in (("settings", "gap"), ("settings", [256]), ("check", ""), ("check", "gap")):
            found = ask(*begun, call, ("heard",), ("feed", self.octets[4:]), ("heard",))
            self.assertEqual(found[3:], [[0, 1, 1, 3], [0, 1, 3, 1, 1, 5, 0], [0, 2, 1, -1]])

    def test_crossings_and_hearing_leave_one_another_alone(self):
        text = ("settings", channels_text(1))
        come = ("times", 9, 1, [5])
        shown = [("counts",), ("wire", 0, 300), ("frame", 3), ("state",)]
        found = ask(text, ("feed", self.octets[:4]), come, ("pack", 3, [1, 5]), ("feed", self.octets[4:]), *shown)
        self.assertEqual(found[4], [0, 1, 3, 1, 1, 5, 0])
        self.assertEqual(found[5:], ask(text, come, *shown)[2:])


class Refused(unittest.TestCase):
    def test_out_of_range(self):
        octets = frame(3, [5])
        begun = [("settings", channels_text(1)), ("feed", octets + [128, 129] + octets[:4])]
        behind = [("heard",), ("feed", octets[4:]), ("heard",)]
        for row in ([256], [-1], [128, FAR], [129, -FAR], [129] * 401, [1] * 1100, octets + [256]):
            found = ask(*begun, ("feed", row), *behind)
            self.assertEqual(found[2:], [[-1], [0, 1, 1, 3], [0, 1, 3, 1, 1, 5, 0], [0, 2, 1, -1]])


def some_bytes(rng, count):
    """Frames and what is like them, whole and damaged, with other bytes between."""
    octets = []
    for _ in range(rng.randint(1, 12)):
        top = rng.choice([0, 1, 20, 4095])
        made = frame(rng.randint(0, 4095), [rng.choice([None, rng.randint(0, top)]) for _ in range(count)])
        lot = rng.randint(0, 8)
        if lot == 0:
            made[rng.randrange(len(made))] = rng.randint(0, 255)
        elif lot == 1:
            made = made[:rng.randint(0, len(made))]
        elif lot == 2:
            made = sealed([rng.choice([0, rng.randint(0, 127)]) for _ in range(rng.randint(0, 8))])
        elif lot == 3:
            made = [rng.choice([128, 129, rng.randint(0, 255)]) for _ in range(rng.randint(1, 9))]
        octets += made
    return octets


class Many(unittest.TestCase):
    def test_against_the_second_reading(self):
        read = bad = 0
        for seed in range(1200):
            rng = random.Random(seed)
            count = rng.choice([0, 1, 2, 3, 5, 8])
            octets = some_bytes(rng, count)
            cuts = sorted(rng.randint(0, len(octets)) for _ in range(rng.randint(0, 9)))
            pieces = [octets[begin:end] for begin, end in zip([0] + cuts, cuts + [len(octets)])]
            found = fed(count, *pieces)
            told, worse, behind = heard(octets, count)
            self.assertEqual(found[-1], behind, seed)
            self.assertEqual(sum(answer[1] for answer in found[:-1]), len(told), seed)
            self.assertEqual(sum(answer[-1] for answer in found[:-1]), worse, seed)
            self.assertEqual([n for answer in found[:-1] for n in answer[2:-1]], sum(told, []), seed)
            read, bad = read + len(told), bad + worse
        self.assertGreater(read, 1000)
        self.assertGreater(bad, 500)

    def test_every_row_of_three_signs(self):
        """Each of them with a right check is read just if it is what a frame has."""
        rng = random.Random(2)
        for count in (0, 1, 2, 4, 5):
            rows = [sealed([rng.randint(0, 127), second, third]) for second in range(0, 128, 3) for third in range(0, 128, 5)]
            for start in range(0, len(rows), 30):
                piece = rows[start:start + 30]
                told = [told_by(row[1:-1], count) for row in piece]
                good = [each for each in told if each]
                due = [0, len(good)] + sum(good, []) + [len(piece) - len(good)]
                self.assertEqual(fed(count, sum(piece, []))[0], due)


if __name__ == "__main__":
    unittest.main()
