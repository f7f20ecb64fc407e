"""Calls 18 live, 19 dead, 20 state."""

import unittest

from tests.helper import ask, channels_text, last


def crosses(asked):
    return [("cross", each, []) for each in asked]


class Live(unittest.TestCase):
    def test_none_asked_for(self):
        self.assertEqual(ask(("live",)), [[0, 0, 1]])
        self.assertEqual(last(("times", 9, 0, []), ("live",)), [0, 0, 1])

    def test_all_taken(self):
        self.assertEqual(last(("cross", 1, []), ("live",)), [0, 1, 1])
        self.assertEqual(last(("times", 7, 1, []), ("live",)), [0, 1, 1])

    def test_those_not_asked_for_do_not_count(self):
        self.assertEqual(last(*crosses([1, 0, 0, 1]), ("live",)), [0, 1, 1])
        self.assertEqual(last(("settings", "gap 1"), *crosses([1, 1, 0, 1, 0]), ("live",)), [0, 2, 3])

    def test_lowest_terms(self):
        for gap, often, terms in (
            (1, 4, [1, 2]), (1, 5, [3, 5]), (1, 6, [1, 2]), (2, 8, [3, 8]), (2, 9, [1, 3]), (2, 10, [2, 5]),
            (3, 10, [3, 10]), (9, 100, [1, 10]), (10, 100, [1, 10]), (0, 100, [1, 1]), (5, 100, [17, 100]),
        ):
            self.assertEqual(last(("settings", f"gap {gap}"), ("times", often, 1, []), ("live",)), [0] + terms)

    def test_dead_by_busy(self):
        text = "buffer 400 rate 0 high 0 low 0"
        self.assertEqual(last(("settings", text), ("times", 12, 1, []), ("live",)), [0, 1, 12])

    def test_lost_frames_were_taken(self):
        text = "buffer 0 rate 0 high 0 low 0"
        self.assertEqual(last(("settings", text), ("times", 12, 1, []), ("live",)), [0, 1, 1])

    def test_new_settings(self):
        found = last(("settings", "gap 1"), ("times", 4, 1, []), ("settings", "gap 1"), ("live",))
        self.assertEqual(found, [0, 0, 1])


class Dead(unittest.TestCase):
    def dead(self, text, *calls):
        return last(("settings", text), *calls, ("dead",))

    def test_never_busy(self):
        self.assertEqual(ask(("dead",)), [[0, 0]])
        self.assertEqual(last(("times", 9, 1, []), ("dead",)), [0, 0])

    def test_to_the_end(self):
        for delay in (0, 1, 8):
            text = f"buffer 400 rate 0 high 0 low 0\ndelay {delay}"
            self.assertEqual(self.dead(text, ("times", 20, 1, [])), [0, 1, delay + 1, 20])
            self.assertEqual(self.dead(text, ("times", delay + 1, 1, [])), [0, 0])
            self.assertEqual(self.dead(text, ("times", delay + 2, 1, [])), [0, 1, delay + 1, delay + 2])

    def test_later_by_the_crossings_kept_ahead(self):
        text = "buffer 400 rate 0 high 0 low 0\ndelay 1\nkeep 2 0"
        self.assertEqual(self.dead(text, ("times", 9, 1, [])), [0, 1, 4, 9])

    def test_crossings_that_are_not_asked_for(self):
        text = "buffer 400 rate 2 high 7 low 4"
        # 8, 6, 4, 2 bytes: busy behind the first two.
        self.assertEqual(self.dead(text, ("cross", 1, []), ("times", 5, 0, [])), [0, 1, 1, 3])

    def test_crossings_that_are_dead_by_the_gap(self):
        text = "buffer 400 rate 2 high 7 low 4\ngap 10"
        self.assertEqual(self.dead(text, ("times", 6, 1, [])), [0, 1, 1, 3])

    def test_several_stretches(self):
        text = "buffer 400 rate 4 high 7 low 4"
        # 8, 4, 8, 4, ..: busy behind each even one, seen at each odd one.
        self.assertEqual(self.dead(text, ("times", 6, 1, [])), [0, 3, 1, 2, 3, 4, 5, 6])
        self.assertEqual(self.dead(text + "\ndelay 1", ("times", 3, 1, []), ("times", 9, 0, [])), [0, 1, 2, 5])

    def test_new_settings(self):
        text = "buffer 400 rate 0 high 0 low 0"
        self.assertEqual(self.dead(text, ("times", 9, 1, []), ("settings", text)), [0, 0])


class State(unittest.TestCase):
    def test_new(self):
        self.assertEqual(ask(("state",)), [[0, 0, 0, 0, 400, 20, 200, 100, 0, 0, 0]])

    def test_all_told(self):
        text = channels_text(3, "keep 1 2\nbuffer 300 rate 7 high 90 low 80\ndelay 5\ngap 6")
        found = ask(("settings", text), ("state",), ("times", 9, 0, [0] * 3), ("cross", 1, [0] * 3), ("state",))
        self.assertEqual(found[1], [0, 3, 1, 2, 300, 7, 90, 80, 5, 6, 0])
        self.assertEqual(found[4], [0, 3, 1, 2, 300, 7, 90, 80, 5, 6, 10])

    def test_at_their_ends(self):
        text = channels_text(8, "keep 4 4\nbuffer 400 rate 50 high 400 low 400\ndelay 8\ngap 10")
        come = [("times", 100, 1, [0] * 8)] * 4
        self.assertEqual(last(("settings", text), *come, ("state",)), [0, 8, 4, 4, 400, 50, 400, 400, 8, 10, 400])
        text = "keep 0 0\nbuffer 0 rate 0 high 0 low 0\ndelay 0\ngap 0"
        self.assertEqual(last(("settings", text), ("state",)), [0] * 11)

    def test_untold_behind_told(self):
        found = last(("settings", "keep 1 2\ndelay 5\ngap 6"), ("cross", 1, []), ("settings", "gap 1"), ("state",))
        self.assertEqual(found, [0, 0, 0, 0, 400, 20, 200, 100, 0, 1, 0])


if __name__ == "__main__":
    unittest.main()
