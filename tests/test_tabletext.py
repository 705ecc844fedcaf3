"""Point 96, and 9 of it: timetables as texts."""

import random
import unittest

from onestaff.errors import NoText
from onestaff.tabletext import table_in, table_text
from tests.things import any_things, refused

RUNS = [("x", "ab", "c", 0, 5), ("train", "from", "to", 9999, 10), ("x", "x", "x", 7, 7)]
TEXT = "x ab c 0 5\ntrain from to 9999 10\nx x x 7 7"


class Written(unittest.TestCase):
    def test_a_row_for_each(self):
        self.assertEqual(table_text(RUNS), TEXT)
        self.assertEqual(table_text(tuple(RUNS)), TEXT)

    def test_no_runs(self):
        self.assertEqual(table_text([]), "")

    def test_the_list_stays(self):
        runs = list(RUNS)
        table_text(runs)
        self.assertEqual(runs, RUNS)


class Read(unittest.TestCase):
    def test_what_was_written(self):
        told = table_in(TEXT)
        self.assertEqual(told, RUNS)
        self.assertEqual((type(told), {type(run) for run in told}), (list, {tuple}))

    def test_no_runs(self):
        self.assertEqual(table_in(""), [])
        table_in("").append(1)
        self.assertEqual(table_in(""), [])

    def test_as_many_as_there_are(self):
        runs = RUNS * 40
        self.assertEqual(table_in(table_text(runs)), runs)

    def test_written_and_read_by_chance(self):
        chance = random.Random(96)
        names = ["a", "zzzzzz", "to", "none", "staff", "x"]
        for _ in range(100):
            runs = [
                tuple(chance.choices(names, k=3)) + tuple(chance.choices([0, 1, 9, 10, 100, 999, 1000, 9999], k=2))
                for _ in range(chance.randint(0, 5))
            ]
            self.assertEqual(table_in(table_text(runs)), runs)
            self.assertEqual(table_text(table_in(table_text(runs))), table_text(runs))

    def refused(self, row, text):
        with self.assertRaises(NoText) as caught:
            table_in(text)
        self.assertIs(type(caught.exception), NoText)
        self.assertEqual(caught.exception.row, row, text)

    def test_no_text(self):
        for thing in any_things() + [RUNS, 0, b"x a b 0 5"]:
            if not isinstance(thing, str):
                refused(self, NoText, "row", 0, table_in, thing)

    def test_rows_of_no_such_form(self):
        wrong = ["", " ", "x", "x a b 0", "x a b 0 5 6", "x a b  0 5", "x  a b 0 5", " x a b 0 5", "x a b 0 5 "]
        wrong += ["X a b 0 5", "x abcdefg b 0 5", "x a b1 0 5", "0 a b 0 5", "x 0 b 0 5", "x a 0 0 5", "x a b c 5"]
        wrong += ["x a b 0 c", "x a b 00 5", "x a b 0 05", "x a b 01 5", "x a b 0 10000", "x a b 12345 5", "x a b 0 -1"]
        wrong += ["x a b +1 5", "x a b 1.0 5", "x a b 0 0000", "x a b 0 1_0", "x a b \u0661 5", "x a b 0 \u00b2"]
        wrong += ["x a b 0 5 / x b a 6 7", "x a b 0 5\r", "x\ta b 0 5", "x a b 0 " + "9" * 3000]
        for row in wrong:
            if row:
                self.refused(1, row)
            self.refused(2, "x a b 0 5\n" + row)
            self.refused(1, row + "\nno")
            self.refused(2, "x a b 0 5\n" + row + "\n" + row)

    def test_line_feeds_ahead_and_behind(self):
        self.refused(1, "\n" + TEXT)
        self.refused(4, TEXT + "\n")
        self.refused(1, "\n")


if __name__ == "__main__":
    unittest.main()
