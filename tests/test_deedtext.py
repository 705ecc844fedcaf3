"""Points 101 to 103, and 9 of them: deeds and logs as texts."""

import random
import unittest

from onestaff.deedtext import deed_in, deed_text, log_text, read_log
from onestaff.errors import NoDeed, NoText
from tests.days import full_day
from tests.texts import ROWS, chance_log, no_deeds, no_rows
from tests.things import any_things, refused
from tests.walks import all_deeds

DEEDS = [deed for deed, _ in ROWS]
TEXT = "\n".join(row for _, row in ROWS)


class Deeds(unittest.TestCase):
    """Points 101 and 102."""

    def test_all_words_are_there(self):
        words = "leave come lock pilot unlock give take box walk help bring again get lose".split()
        self.assertEqual(sorted({deed[0] for deed in DEEDS}), sorted(words))

    def test_written(self):
        for deed, row in ROWS:
            self.assertEqual(deed_text(deed), row)

    def test_read(self):
        for deed, row in ROWS:
            told = deed_in(row)
            self.assertEqual(told, deed)
            self.assertEqual([type(part) for part in told], [type(part) for part in deed])
            self.assertIs(type(told), tuple)

    def test_all_deeds_whose_parts_there_are(self):
        deeds = all_deeds(full_day())
        self.assertEqual([deed_in(deed_text(deed)) for deed in deeds], deeds)
        self.assertEqual(len({deed_text(deed) for deed in deeds}), len(deeds))

    def test_no_deed(self):
        for thing in any_things() + no_deeds():
            refused(self, NoDeed, "found", thing, deed_text, thing)

    def test_any_thing_as_each_part(self):
        for deed, _ in ROWS:
            for part in range(len(deed)):
                for thing in any_things():
                    # Names stand beside numbers, so a number is a part where one is asked for.
                    if isinstance(deed[part], int) and not isinstance(thing, bool) and thing in (10, 300):
                        continue
                    wrong = deed[:part] + (thing,) + deed[part + 1:]
                    refused(self, NoDeed, "found", wrong, deed_text, wrong)

    def test_no_row(self):
        for row in no_rows() + [TEXT]:
            refused(self, NoText, "row", 0, deed_in, row)

    def test_no_text(self):
        for thing in any_things() + DEEDS:
            refused(self, NoText, "row", 0, deed_in, thing)


class Logs(unittest.TestCase):
    """Point 103."""

    def test_written_and_read(self):
        self.assertEqual(log_text(DEEDS), TEXT)
        self.assertEqual(log_text(tuple(DEEDS)), TEXT)
        self.assertEqual(read_log(TEXT), DEEDS)
        self.assertIs(type(read_log(TEXT)), list)

    def test_no_deeds(self):
        self.assertEqual((log_text([]), log_text(())), ("", ""))
        self.assertEqual(read_log(""), [])
        read_log("").append(1)
        self.assertEqual(read_log(""), [])

    def test_one_deed(self):
        for deed, row in ROWS:
            self.assertEqual((log_text([deed]), read_log(row)), (row, [deed]))

    def test_three_hundred(self):
        deeds = (DEEDS * 20)[:300]
        self.assertEqual(read_log(log_text(deeds)), deeds)

    def test_of_days(self):
        for seed in range(20):
            deeds = chance_log(random.Random(seed))[3].deeds()
            self.assertEqual(read_log(log_text(deeds)), deeds)

    def test_the_list_stays(self):
        deeds = list(DEEDS)
        log_text(deeds)
        self.assertEqual(deeds, DEEDS)

    def test_no_list(self):
        for thing in any_things() + [{("come", "x"): 1}, TEXT]:
            if not isinstance(thing, (list, tuple)):
                refused(self, NoDeed, "found", thing, log_text, thing)

    def test_the_first_thing_that_is_no_deed(self):
        for thing in any_things() + no_deeds():
            refused(self, NoDeed, "found", thing, log_text, [thing])
            refused(self, NoDeed, "found", thing, log_text, [DEEDS[0], thing, None])
            refused(self, NoDeed, "found", thing, log_text, (thing, DEEDS[0]))

    def test_a_deed_alone_is_no_log(self):
        refused(self, NoDeed, "found", "get", log_text, ("get", 0))

    def test_no_text(self):
        for thing in any_things() + [DEEDS, DEEDS[0]]:
            if not isinstance(thing, str):
                refused(self, NoText, "row", 0, read_log, thing)

    def test_the_first_row_that_is_none(self):
        for row in no_rows():
            first = row.split("\n").index("") + 1 if "\n" in row and "" in row.split("\n") else 1
            if row:
                refused(self, NoText, "row", first, read_log, row)
            refused(self, NoText, "row", first + 2, read_log, "get 0\nget 1\n" + row + "\nno")

    def test_line_feeds_ahead_and_behind(self):
        refused(self, NoText, "row", 1, read_log, "\n" + TEXT)
        refused(self, NoText, "row", len(DEEDS) + 1, read_log, TEXT + "\n")
        refused(self, NoText, "row", 1, read_log, "\n")
        refused(self, NoText, "row", 2, read_log, "get 0\n\nget 1")


if __name__ == "__main__":
    unittest.main()
