"""Points 15 and 16: lines as texts."""

import random
import unittest
from itertools import product

from onestaff.errors import NoLongs, NoNumber, NoPlace, NoPlaces, NoStretches, NoText, StaffError, Twice
from onestaff.lines import Line
from onestaff.linetext import read_line, show_line
from tests.test_lines import full_line
from tests.things import any_things

TEXT = """place ab 1
place c 2
place def 3
place g 1
place h 2
stretch staff low
stretch ticket high
stretch ticket low
stretch staff high
long ab def high
long def h low"""
SHORT = "place a 1\nplace b 3\nplace c 2\nstretch ticket high\nstretch staff low"
LONG = SHORT + "\nlong a c low"


class Shown(unittest.TestCase):
    def test_all_kinds_of_rows(self):
        self.assertEqual(show_line(full_line()), TEXT)

    def test_without_longs(self):
        line = Line([("a", 1), ("b", 3), ("c", 2)], [("ticket", 1), ("staff", 0)])
        self.assertEqual(show_line(line), SHORT)

    def test_the_other_way_round(self):
        self.assertEqual(show_line(read_line(LONG).mirrored()), "\n".join([
            "place c 2", "place b 3", "place a 1", "stretch staff high", "stretch ticket low", "long c a high",
        ]))

    def test_the_line_stays(self):
        line = full_line()
        told = line.told()
        self.assertEqual(show_line(line), show_line(line))
        self.assertEqual(line.told(), told)


class Read(unittest.TestCase):
    def test_what_was_written(self):
        line = read_line(TEXT)
        self.assertIsInstance(line, Line)
        self.assertEqual(line.told(), full_line().told())

    def test_without_longs(self):
        told = ((("a", 1), ("b", 3), ("c", 2)), (("ticket", 1), ("staff", 0)), ())
        self.assertEqual(read_line(SHORT).told(), told)

    def test_with_a_long_one(self):
        self.assertEqual(read_line(LONG).told()[2], ((0, 2, 0),))
        self.assertEqual(read_line(SHORT + "\nlong a c high").told()[2], ((0, 2, 1),))

    def test_written_read_and_written_again(self):
        chance = random.Random(15)
        for _ in range(200):
            line = chance_line(chance)
            text = show_line(line)
            self.assertEqual(read_line(text).told(), line.told())
            self.assertEqual(show_line(read_line(text)), text)

    def test_least_and_most(self):
        for text in ("place a 1\nplace b 1\nstretch staff low", show_line(chance_line(random.Random(3), 6))):
            self.assertEqual(show_line(read_line(text)), text)


def chance_line(chance, many=None):
    many = many or chance.randint(2, 6)
    names = chance.sample(["a", "place", "zzzzzz", "long", "staff", "low", "qu"], many)
    places = [(name, chance.randint(1, 3)) for name in names]
    stretches = [(chance.choice(["staff", "ticket"]), chance.randint(0, 1)) for _ in range(many - 1)]
    pairs = [(a, b) for a, b in product(range(many), range(many)) if b >= a + 2]
    longs = [(a, b, chance.randint(0, 1)) for a, b in chance.sample(pairs, min(2, len(pairs)))]
    longs.sort()
    if len(longs) == 2 and longs[1][0] < longs[0][1]:
        longs.pop(chance.randint(0, 1))
    return Line(places, stretches, longs)


class RefusedRows(unittest.TestCase):
    def refused(self, row, text):
        with self.assertRaises(NoText) as caught:
            read_line(text)
        self.assertIs(type(caught.exception), NoText)
        self.assertEqual(caught.exception.row, row, text)

    def test_no_text(self):
        for thing in any_things() + [full_line(), 0, ["place a 1"]]:
            if not isinstance(thing, str):
                self.refused(0, thing)

    def test_a_text_without_signs_has_no_row(self):
        with self.assertRaises(NoPlaces) as caught:
            read_line("")
        self.assertEqual(caught.exception.found, [])

    def test_line_feeds_ahead_and_behind(self):
        self.refused(1, "\n" + SHORT)
        self.refused(6, SHORT + "\n")
        self.refused(1, "\n")
        self.refused(4, SHORT.replace("2\n", "2\n\n"))

    def test_blanks(self):
        for row, words in enumerate(LONG.split("\n"), start=1):
            for wrong in (words + " ", " " + words, words.replace(" ", "  ", 1), words.replace(" ", "", 1)):
                rows = LONG.split("\n")
                rows[row - 1] = wrong
                self.refused(row, "\n".join(rows))
        self.refused(1, " ")
        self.refused(2, "place a 1\n \nplace b 1")

    def test_no_form_of_a_place(self):
        wrong = ["place", "place a", "place a 1 1", "places a 1", "Place a 1", "place A 1", "place abcdefg 1"]
        wrong += ["place a1 1", "place a one", "place a 01", "place a 10", "place a -1", "place a +1", "place a 1.0"]
        wrong += ["place a a", "place a /", "place a :", "place 1 a", "a 1", "place a\t1", "place a 1\r", "x"]
        wrong += ["place a \u0661", "place a \u00b2", "place \u00e4 1", "", "-", "low"]
        for words in wrong:
            self.refused(2, SHORT.replace("place b 3", words))
            self.refused(1, words + "\nno row")

    def test_no_form_of_a_stretch(self):
        wrong = ["stretch", "stretch staff", "stretch staff low low", "stretch pilot low", "stretch Staff low"]
        wrong += ["stretch staff Low", "stretch staff 0", "stretch low staff", "stretch staff lo", "stretch ticket hig"]
        wrong += ["stretches staff low", "staff low", "stretch long low", "stretch tickets low", "stretch high high"]
        for words in wrong:
            self.refused(5, SHORT.replace("stretch staff low", words))

    def test_no_form_of_a_long(self):
        wrong = ["long", "long a", "long a c", "long a c low low", "long A c low", "long a C low", "long a c 0"]
        wrong += ["long a c Low", "long 0 2 low", "longs a c low", "long low a c", "a c low", "long a c lower"]
        for words in wrong:
            self.refused(6, SHORT + "\n" + words)

    def test_a_row_of_a_kind_that_comes_ahead(self):
        place, stretch, long = "place x 1", "stretch staff low", "long a c low"
        self.refused(6, SHORT + "\n" + place)
        self.refused(7, LONG + "\n" + stretch)
        self.refused(7, LONG + "\n" + place)
        self.refused(2, "\n".join([stretch, place, "no row"]))
        self.refused(3, "\n".join([place, long, place, stretch]))
        self.refused(2, "\n".join([long, stretch]))
        self.refused(3, "\n".join([place, long, stretch, place]))

    def test_the_first_row_goes_first(self):
        self.refused(2, "place a 0\nno")
        self.refused(1, "no\nplace a 1\nno")
        self.refused(3, "stretch staff low\nlong a c low\nplace a 1\nno")
        self.refused(3, "stretch staff low\nlong a c low\nno\nplace a 1")


class RefusedLines(unittest.TestCase):
    def refused(self, error, found, text):
        with self.assertRaises(StaffError) as caught:
            read_line(text)
        self.assertEqual((type(caught.exception), caught.exception.found), (error, found))
        self.assertEqual(type(caught.exception.found), type(found))

    def test_forms_of_rows_go_ahead_of_the_line(self):
        with self.assertRaises(NoText) as caught:
            read_line("place a 0\nplace a 0\nlong x y low\nlong x  y low")
        self.assertEqual(caught.exception.row, 4)

    def test_roads(self):
        for figure in range(10):
            text = SHORT.replace("place b 3", f"place b {figure}")
            if 1 <= figure <= 3:
                self.assertEqual(read_line(text).roads("b"), figure)
            else:
                self.refused(NoNumber, figure, text)

    def test_as_the_line_without_longs(self):
        self.refused(NoPlaces, [("a", 1)], "place a 1\nlong x y low")
        self.refused(NoPlaces, [], "stretch staff low")
        self.refused(NoPlaces, [], "long a b low")
        names = "abcdefg"
        self.refused(NoPlaces, [(name, 2) for name in names], "\n".join(f"place {name} 2" for name in names))
        self.refused(Twice, "a", "place a 1\nplace b 1\nplace a 0\nlong x y low")
        self.refused(NoStretches, [], "place a 1\nplace b 1\nlong x y low")
        stretches = [("staff", 0), ("ticket", 1)]
        self.refused(NoStretches, stretches, "place a 1\nplace b 1\nstretch staff low\nstretch ticket high")
        self.refused(NoNumber, 0, "place a 1\nplace b 0\nlong x y low")

    def test_the_first_name_that_no_place_has(self):
        self.refused(NoPlace, "x", SHORT + "\nlong x y low")
        self.refused(NoPlace, "y", SHORT + "\nlong a y low")
        self.refused(NoPlace, "x", SHORT + "\nlong x a low\nlong y a low")
        self.refused(NoPlace, "y", SHORT + "\nlong c a low\nlong y x low")
        self.refused(NoPlace, "z", SHORT + "\nlong a b low\nlong a a low\nlong a c high\nlong a z low")

    def test_as_the_line_with_longs(self):
        self.refused(NoLongs, (2, 0, 0), SHORT + "\nlong c a low")
        self.refused(NoLongs, (0, 1, 1), SHORT + "\nlong a b high")
        self.refused(NoLongs, (1, 1, 0), SHORT + "\nlong b b low")
        self.refused(NoLongs, (0, 2, 1), SHORT + "\nlong a c low\nlong a c high")
        three = [(0, 2, 0), (0, 2, 1), (2, 0, 0)]
        self.refused(NoLongs, three, SHORT + "\nlong a c low\nlong a c high\nlong c a low")


if __name__ == "__main__":
    unittest.main()
