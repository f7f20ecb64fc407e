"""Call 10 margin: how full the buffer can become at most."""

import unittest

from tests.helper import ask, channels_text, last


def margin(count, rest=""):
    return last(("settings", channels_text(count, rest)), ("margin",))


class Margin(unittest.TestCase):
    def test_new(self):
        self.assertEqual(ask(("margin",)), [[0, 8, 400, 1]])

    def test_rate_takes_all(self):
        for high in (0, 8, 400):
            self.assertEqual(margin(0, f"buffer 8 rate 8 high {high} low 0\nkeep 4 4\ndelay 8"), [0, 8, 8, 1])
        self.assertEqual(margin(8, "buffer 22 rate 23 high 300 low 0"), [0, 23, 22, 0])

    def test_rate_one_less(self):
        self.assertEqual(margin(0, "buffer 400 rate 7 high 100 low 0\nkeep 4 0\ndelay 8"), [0, 8 + 93 + 12, 400, 1])

    def test_high_mark_beside_the_rate(self):
        for high, above in ((0, 0), (19, 0), (20, 0), (21, 1), (400, 380)):
            self.assertEqual(margin(8, f"buffer 400 rate 20 high {high} low 0")[:2], [0, 23 + above])

    def test_ahead_and_delay_count_and_behind_does_not(self):
        self.assertEqual(margin(8, "keep 0 4"), [0, 23 + 180, 400, 1])
        self.assertEqual(margin(8, "keep 3 4"), [0, 23 + 180 + 9, 400, 1])
        self.assertEqual(margin(8, "delay 8"), [0, 23 + 180 + 24, 400, 1])
        self.assertEqual(margin(8, "keep 4 0\ndelay 8\ngap 10"), [0, 23 + 180 + 36, 400, 1])

    def test_the_greatest(self):
        text = "buffer 400 rate 0 high 400 low 0\nkeep 4 4\ndelay 8"
        self.assertEqual(margin(8, text), [0, 23 + 400 + 23 * 12, 400, 0])

    def test_at_the_depth_and_beside_it(self):
        for depth, fits in ((202, 0), (203, 1), (204, 1)):
            self.assertEqual(margin(8, f"buffer {depth} rate 20 high 200 low 0"), [0, 203, depth, fits])

    def test_crossings_leave_it_alone(self):
        self.assertEqual(last(("times", 9, 1, []), ("margin",)), [0, 8, 400, 1])


if __name__ == "__main__":
    unittest.main()
