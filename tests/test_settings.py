"""Calls 0 settings, 1 check, 2 print: a text's faults and their places, and the one text."""

import unittest

from tests.helper import ask, channels_text, last, octets

WHOLE = (
    "channel ecal pedestal 12 on 40 off 20\nchannel mu pedestal 0 on 4095 off 4095\n"
    "keep 2 1\nbuffer 300 rate 7 high 200 low 50\ndelay 3\ngap 4\n"
)
RESERVED = "channel pedestal on off keep buffer rate high low delay gap".split()


def fault(text):
    """The fault's kind and place, or None; settings must refuse just what check faults."""
    checked, told = ask(("check", text), ("settings", text))
    if checked[:2] == [0, 1]:
        assert told == [-3], (text, told)
        return tuple(checked[2:])
    assert checked[:2] == [0, 0] and len(checked) == 3, checked
    assert told[:2] == [0, checked[2]], (text, told)
    return None


def at(text, mark="^"):
    """The text without the mark, and the mark's place."""
    return text.replace(mark, ""), text.index(mark)


class Faults(unittest.TestCase):
    def faulty(self, kind, *marked):
        for text in marked:
            with self.subTest(kind=kind, text=text):
                plain, place = at(text)
                self.assertEqual(fault(plain), (kind, place))

    def good(self, *texts):
        for text in texts:
            with self.subTest(text=text):
                self.assertIsNone(fault(text))

    def test_no_fault(self):
        self.good("", "\n", "   \n \n", WHOLE, "  keep   1  2  ", "gap 0", "\n\ndelay 8\n\n")

    def test_words_that_cannot_stand_there(self):
        self.faulty(
            1, "^keeps 1 1", "^Keep 1 1", "^5", "keep 1 1\n  ^pedestal 4\n", "^\tkeep 1 1", "^keep\t1 1",
            "channel a ^pedestals 1 on 1 off 1", "channel a pedestal 1 ^off 1 on 1",
            "channel a pedestal 1 on 1 ^on 1", "buffer 1 ^high 1 rate 1 low 1", "buffer 1 rate 1 ^low 1 high 1",
            "buffer 1 rate 1 high 1 ^1", "^\rgap 1", "gap ^1\r", "^\xff",
        )

    def test_bytes_that_fit_no_word(self):
        for byte in range(256):
            if byte in (10, 32):
                continue
            with self.subTest(byte=byte):
                self.assertEqual(last(("check", octets("gap ") + [byte]))[:2], [0, 0 if 48 <= byte <= 57 else 1])
        self.faulty(1, "^?", "channel ^a?b pedestal 0 on 0 off 0", "channel ^NAME pedestal 0 on 0 off 0")

    def test_words_too_many(self):
        self.faulty(
            1, "keep 1 1 ^1", "gap 1 ^gap 1", "delay 1   ^x\ngap 99", "buffer 1 rate 1 high 1 low 1 ^1",
            "channel a pedestal 1 on 1 off 1 ^channel",
        )

    def test_words_lacking(self):
        self.faulty(
            1, "keep^", "keep 1^", "keep 1  ^\n", "\nkeep 1 ^\ngap x", "buffer 1 rate 1 high 1 low^", "delay^",
            "gap  ^", "channel^", "channel a^", "channel a pedestal^", "channel a pedestal 1 on 1 off   ^\n",
        )

    def test_numbers_not_of_their_form(self):
        self.faulty(
            1, "gap ^00", "gap ^01", "gap ^0000001", "gap ^12345678", "gap ^00000000", "gap ^-1", "gap ^+1",
            "gap ^1a", "gap ^x", "gap ^1.0", "keep 1 ^02", "channel a pedestal ^on 1 off 1", "gap ^1\xb2",
        )

    def test_numbers_beyond(self):
        self.faulty(
            2, "gap ^11", "gap ^9999999", "delay ^9", "keep ^5 0", "keep 4 ^5", "keep ^5 x",
            "buffer ^401 rate 0 high 0 low 0", "buffer 0 rate ^51 high 0 low 0",
            "buffer 0 rate 0 high ^401 low 0", "buffer 0 rate 0 high 0 low ^401",
            "channel a pedestal ^4096 on 0 off 0", "channel a pedestal 0 on ^4096 off 0",
            "channel a pedestal 0 on 0 off ^4096",
        )

    def test_numbers_at_their_ends(self):
        self.good(
            "gap 10", "gap 0", "delay 0", "delay 8", "keep 0 0", "keep 4 4", "buffer 0 rate 0 high 0 low 0",
            "buffer 400 rate 50 high 400 low 400", "channel a pedestal 0 on 0 off 0",
            "channel a pedestal 4095 on 4095 off 4095",
        )

    def test_names(self):
        self.good(*[f"channel {name} pedestal 0 on 0 off 0" for name in ("a", "z", "abcdefgh", "ons", "channels")])
        for name in RESERVED + ["abcdefghi", "A", "a1", "1", "a_b", "?", "\xe4"]:
            self.faulty(1, f"channel ^{name} pedestal 0 on 0 off 0")

    def test_told_already(self):
        self.faulty(
            4, "keep 0 0\n ^keep 0 0", "keep 0 0\n^keep x y z", "keep 0 0\n^keep", "gap 1\ndelay 1\n^gap 1",
            "delay 1\n\n^delay 99", "buffer 1 rate 1 high 1 low 1\n^buffer",
            "channel a pedestal 0 on 0 off 0\nchannel ^a pedestal 9999 on",
        )
        self.good("channel a pedestal 0 on 0 off 0\nchannel aa pedestal 0 on 0 off 0")

    def test_ninth_channel(self):
        self.good(channels_text(8))
        self.faulty(
            5, channels_text(8) + "  ^channel x pedestal 0 on 0 off 0", channels_text(8) + "^channel",
            channels_text(8) + "gap 1\n^channel a on\n",
        )
        self.faulty(1, channels_text(8) + "^channels")

    def test_second_above_first(self):
        self.faulty(
            6, "channel a pedestal 0 on 5 off ^6", "channel a pedestal 0 on 0 off ^4095 more",
            "buffer 0 rate 0 high 9 low ^10", "buffer 400 rate 50 high 399 low ^400\ngap x",
        )
        self.faulty(2, "channel a pedestal 0 on 5 off ^4096", "buffer 0 rate 0 high 1 low ^401")
        self.faulty(1, "channel a pedestal 0 on 5 off ^06")
        self.good("channel a pedestal 9 on 5 off 5", "keep 1 4", "buffer 0 rate 50 high 3 low 3")

    def test_the_first_fault_counts(self):
        self.faulty(2, "gap ^11\nkeep 0 0\nkeep 0 0")
        self.faulty(4, "gap 1\n^gap 11\nfoo")
        self.faulty(1, "delay ^x x")


class Calls(unittest.TestCase):
    def test_settings_answers_channels_and_the_longest_frame(self):
        longest = [5 + -(-(16 + 13 * n) // 7) for n in range(9)]
        self.assertEqual(longest[0], 8)
        self.assertEqual(longest[8], 23)
        for n in range(9):
            self.assertEqual(last(("settings", channels_text(n))), [0, n, longest[n]])

    def test_check_answers_how_many_channels(self):
        for n in range(9):
            self.assertEqual(last(("check", channels_text(n, "gap 1"))), [0, 0, n])
        self.assertEqual(last(("check", channels_text(9))), [0, 1, 5, len(channels_text(8))])

    def test_check_changes_nothing(self):
        found = ask(("settings", "gap 2"), ("cross", 1, []), ("check", WHOLE), ("check", "x"), ("print",), ("counts",))
        self.assertEqual(found[4], [0] + octets("gap 2\n"))
        self.assertEqual(found[5][:2], [0, 1])

    def test_print_of_a_new_object(self):
        self.assertEqual(ask(("print",)), [[0]])

    def test_print_is_the_one_text(self):
        self.assertEqual(last(("settings", WHOLE), ("print",)), [0] + octets(WHOLE))
        mixed = "  gap  4 \n\ndelay 3\nchannel b pedestal 1  on 2 off 0\nkeep 0 0\nchannel a pedestal 1 on 2 off 2"
        ordered = (
            "channel b pedestal 1 on 2 off 0\nchannel a pedestal 1 on 2 off 2\nkeep 0 0\ndelay 3\ngap 4\n"
        )
        self.assertEqual(last(("settings", mixed), ("print",)), [0] + octets(ordered))
        untold = "buffer 400 rate 20 high 200 low 100\n"
        self.assertEqual(last(("settings", untold), ("print",)), [0] + octets(untold))

    def test_untold_lines_are_as_the_document_says(self):
        told = "buffer 400 rate 20 high 200 low 100\nkeep 0 0\ndelay 0\ngap 0\n"
        rows = [("times", 60, 1, [4095] * 8), ("counts",), ("margin",), ("wire", 0, 300)]
        untold = ask(("settings", channels_text(8)), *rows)
        self.assertEqual(untold[1:], ask(("settings", channels_text(8, told)), *rows)[1:])

    def test_settings_begin_anew(self):
        text = channels_text(1)
        found = ask(("settings", text), ("times", 9, 1, [5]), ("settings", text), ("counts",), ("wire", 0, 9))
        self.assertEqual(found[3:], [[0] * 12, [0, 0]])
        found = ask(("settings", text), ("times", 9, 1, [5]), ("settings", ""), ("kept", 1), ("print",))
        self.assertEqual(found[3:], [[-5], [0]])

    def test_a_refused_text_changes_nothing(self):
        rows = [("print",), ("counts",), ("wire", 0, 300), ("high", 1), ("kept", 1), ("frame", 2), ("margin",)]
        begun = [("settings", channels_text(1, "keep 1 1\ngap 1")), ("times", 9, 1, [5])]
        for refused, number in (("gap", -3), ([256], -1), ([32] * 1001, -1)):
            found = ask(*begun, *rows, ("settings", refused), *rows)
            self.assertEqual(found[9], [number])
            self.assertEqual(found[2:9], found[10:])

    def test_texts_at_their_ends(self):
        for call, full in (("settings", [0, 0, 8]), ("check", [0, 0, 0])):
            self.assertEqual(last((call, [32] * 1000)), full)
            self.assertEqual(last((call, [32] * 1001)), [-1])
            self.assertEqual(last((call, [0] * 1100)), [-1])
            for wrong in (-1, 256, 10 ** 18, -10 ** 18):
                self.assertEqual(last((call, [32, wrong])), [-1])
                self.assertEqual(last((call, octets("x") + [wrong])), [-1])
        self.assertEqual(last(("check", [32] * 999 + [255])), [0, 1, 1, 999])
        self.assertEqual(last(("check", [0])), [0, 1, 1, 0])


if __name__ == "__main__":
    unittest.main()
