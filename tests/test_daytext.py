"""Points 104 to 106, and 9 of them: starts and days as texts."""

import random
import unittest

from onestaff.daytext import day_text, read_day, read_start, start_text
from onestaff.days import Day
from onestaff.errors import Full, NoDeed, NoEnds, NoLongs, NoName, NoNumber, NoPlace, NoPlaces, NoStretches, NoText
from onestaff.errors import NoTrains, StaffError, Twice
from onestaff.linetext import show_line
from tests.days import TRAINS, day_behind, everything, full_line
from tests.texts import ROWS, chance_log, no_deeds, no_rows
from tests.things import any_things, refused

LINE = """place a 2
place b 3
place c 2
place d 1
stretch ticket low
stretch staff high
stretch ticket low
long a c low"""
START = LINE + """
train x at a
train y at a
train z at c
end 0 at a
end 1 at c
end 2 at c"""
DAY = START + """
leave x to b by ticket
come x
lose 0"""
DEEDS = [("leave", "x", "b", "ticket"), ("come", "x"), ("lose", 0)]
NO_TEXT = [thing for thing in any_things() if not isinstance(thing, str)]


class Written(unittest.TestCase):
    """Point 104."""

    def test_a_start(self):
        self.assertEqual(start_text(full_line(), TRAINS, ["a", "c", "c"]), START)
        self.assertEqual(start_text(full_line(), tuple(TRAINS), ("a", "c", "c")), START)

    def test_without_ends_told(self):
        self.assertEqual(start_text(full_line(), TRAINS), START)
        self.assertEqual(start_text(full_line(), TRAINS, None), START)
        self.assertEqual(day_text(full_line(), TRAINS, None, []), START)

    def test_other_trains_and_ends(self):
        told = start_text(full_line(), [("b", "d"), ("train", "b")], ["b", "b", "d"])
        self.assertEqual(told, LINE + "\ntrain b at d\ntrain train at b\nend 0 at b\nend 1 at b\nend 2 at d")

    def test_a_day(self):
        self.assertEqual(day_text(full_line(), TRAINS, None, DEEDS), DAY)
        self.assertEqual(day_text(full_line(), TRAINS, ["a", "c", "c"], tuple(DEEDS)), DAY)

    def test_without_deeds(self):
        for deeds in ([], ()):
            self.assertEqual(day_text(full_line(), TRAINS, None, deeds), START)

    def test_whether_a_day_does_the_deeds_is_not_looked_at(self):
        deeds = [deed for deed, _ in ROWS]
        self.assertEqual(day_text(full_line(), TRAINS, None, deeds), START + "\n" + "\n".join(row for _, row in ROWS))

    def test_what_is_handed_in_stays(self):
        trains, ends, deeds = list(TRAINS), ["b", "b", "d"], list(DEEDS)
        day_text(full_line(), trains, ends, deeds)
        self.assertEqual((trains, ends, deeds), (TRAINS, ["b", "b", "d"], DEEDS))

    def refused(self, error, thing, trains, ends=None):
        refused(self, error, "found", thing, start_text, full_line(), trains, ends)
        refused(self, error, "found", thing, day_text, full_line(), trains, ends, None)
        refused(self, error, "found", thing, Day, full_line(), trains, ends)

    def test_refused_as_a_day(self):
        for thing in any_things():
            if not (isinstance(thing, (list, tuple)) and 1 <= len(thing) <= 4):
                self.refused(NoTrains, thing, thing, 7)
            if not (isinstance(thing, tuple) and len(thing) == 2):
                self.refused(NoTrains, thing, [("x", "a"), thing], 7)
            self.refused(NoName, thing, [("x", "a"), (thing, "e")], 7)
            self.refused(NoPlace, thing, [("x", thing), None], 7)
            if thing is not None:
                self.refused(NoEnds, thing, TRAINS, thing)
        self.refused(Twice, "x", [("x", "a"), ("x", "d"), None], 7)
        self.refused(Full, "d", [("x", "d"), ("y", "d"), None], 7)
        ends = ["a", "a", "c"]
        self.refused(NoEnds, ends, TRAINS, ends)

    def test_then_as_a_log(self):
        for thing in any_things() + no_deeds():
            if not isinstance(thing, (list, tuple)):
                refused(self, NoDeed, "found", thing, day_text, full_line(), TRAINS, None, thing)
            refused(self, NoDeed, "found", thing, day_text, full_line(), TRAINS, None, [DEEDS[0], thing, None])


class Read(unittest.TestCase):
    """Point 105."""

    def test_a_start(self):
        told = read_start(START)
        self.assertEqual((type(told), len(told)), (tuple, 3))
        line, trains, ends = told
        self.assertEqual(line.told(), full_line().told())
        self.assertEqual((trains, ends), (TRAINS, ["a", "c", "c"]))
        self.assertEqual((type(trains), {type(train) for train in trains}, type(ends)), (list, {tuple}, list))

    def test_a_day(self):
        told = read_day(DAY)
        self.assertEqual((type(told), len(told)), (tuple, 4))
        self.assertEqual(told[0].told(), full_line().told())
        self.assertEqual(told[1:], (TRAINS, ["a", "c", "c"], DEEDS))
        self.assertIs(type(told[3]), list)

    def test_a_day_without_deeds(self):
        self.assertEqual(read_day(START)[1:], (TRAINS, ["a", "c", "c"], []))

    def test_all_forms_of_deeds(self):
        text = START + "\n" + "\n".join(row for _, row in ROWS)
        self.assertEqual(read_day(text)[3], [deed for deed, _ in ROWS])

    def test_lists_are_the_askers_own(self):
        for part in read_day(DAY)[1:]:
            part.clear()
        self.assertEqual(read_day(DAY)[1:], (TRAINS, ["a", "c", "c"], DEEDS))

    def both(self, row, text):
        for read in (read_start, read_day):
            self.row(row, text, read)

    def row(self, row, text, read):
        with self.assertRaises(StaffError, msg=text) as caught:
            read(text)
        self.assertIs(type(caught.exception), NoText, text)
        self.assertEqual(caught.exception.row, row, text)

    def test_no_text(self):
        for thing in NO_TEXT + [START.split("\n")]:
            self.both(0, thing)

    def test_a_deed_in_a_start(self):
        self.row(15, DAY, read_start)
        self.row(15, START + "\nget 0\nno", read_start)
        for _, row in ROWS:
            self.row(15, START + "\n" + row, read_start)

    def test_rows_of_no_form(self):
        wrong = ["train", "train x", "train x a", "train x at", "train x at a a", "train x to a", "train X at a"]
        wrong += ["train abcdefg at a", "train x at A", "train x  at a", "train x at a ", " train x at a"]
        wrong += ["train x at 0", "end 0 at abcdefg"]
        wrong += ["trains x at a", "Train x at a", "train 0 at a", "x at a", "end 0 a", "end 0 at", "end 0"]
        wrong += ["end 00 at a", "end 0 at A", "end 0 at a ", "end 0  at a", "end 0 at 0", "end -1 at a", "end 0 for a"]
        wrong += ["end a at 0", "ends 0 at a", "end zero at a", "end 0 at a a", "end \u0660 at a", "end at a"]
        wrong += ["place a", "stretch staff", "long a c", "place a 10", "", " ", "ok", "undo", "show"]
        wrong += ["end " + "0" * 3000 + " at a"]
        for row in wrong + [row for row in no_rows() if "\n" not in row and not row.startswith(("place", "train"))]:
            for number in (1, 9, 12, 14):
                rows = START.split("\n")
                rows[number - 1:number - 1] = [row]
                self.both(number, "\n".join(rows))
                self.both(number, "\n".join(rows[:number]) + "\nno")

    def test_line_feeds_ahead_and_behind(self):
        self.both(1, "\n" + START)
        self.both(15, START + "\n")
        self.row(18, DAY + "\n", read_day)
        self.both(1, "\n")
        self.both(9, START.replace("\ntrain", "\n\ntrain", 1))

    def test_rows_out_of_their_order(self):
        sorts = ["place e 1", "stretch staff low", "long a c low", "train w at b", "end 3 at b", "get 0"]
        ends_of = [4, 7, 8, 11, 14, 17]
        rows = DAY.split("\n")
        for late, first in enumerate(ends_of):
            for row in sorts[:late]:
                wrong = rows[:first] + [row] + rows[first:]
                self.row(first + 1, "\n".join(wrong), read_day)
                if late < 5:
                    self.both(first + 1, "\n".join(wrong[:first + 1]))

    def test_sorts_may_be_left_out_as_far_as_order_goes(self):
        # These are refused for what stands behind the rows, so all of the rows have forms and stand in order.
        for text in ("train x at a", "end 0 at a", "train x at a\nend 0 at a", "long a c low\nend 0 at a"):
            for read in (read_start, read_day):
                refused_with(self, NoPlaces, [], read, text)
        refused_with(self, NoPlaces, [], read_day, "get 0")

    def test_ends_out_of_their_numbers(self):
        rows = START.split("\n")
        for numbers, wrong in (((1, 0, 2), 12), ((0, 2, 1), 13), ((0, 0, 1), 13), ((0, 1, 1), 14), ((0, 1, 3), 14)):
            ends = [f"end {number} at c" for number in numbers]
            self.both(wrong, "\n".join(rows[:11] + ends))
            self.both(wrong, "\n".join(rows[:11] + ends + ["no"]))
        self.both(12, START.replace("end 0 at a\n", ""))
        self.both(13, START.replace("end 1 at c\n", ""))
        self.both(12, "\n".join(rows[:11] + ["end 1 at c", "end 0 at a", "end 2 at c"]))

    def test_the_first_row_goes_first(self):
        self.both(2, "place a 9\nno\nplace a 9")
        self.both(3, "end 0 at a\nend 1 at a\ntrain x at a\nend 5 at a")
        self.row(2, "get 0\nend 0 at a\nno", read_day)
        self.row(1, "get 0\nend 0 at a\nno", read_start)


def refused_with(case, error, found, read, text):
    with case.assertRaises(StaffError, msg=text) as caught:
        read(text)
    case.assertIs(type(caught.exception), error)
    case.assertEqual(caught.exception.found, found)
    case.assertIs(type(caught.exception.found), type(found))


class RefusedBehindTheRows(unittest.TestCase):
    """Point 105."""

    def refused(self, error, found, text):
        for read in (read_start, read_day):
            refused_with(self, error, found, read, text)
        refused_with(self, error, found, read_day, text + "\nget 0")

    def test_the_text_without_signs(self):
        for read in (read_start, read_day):
            refused_with(self, NoPlaces, [], read, "")

    def test_the_rows_go_ahead_of_all(self):
        for read in (read_start, read_day):
            with self.assertRaises(NoText) as caught:
                read("place a 0\nend 0 at a\nno")
            self.assertEqual(caught.exception.row, 3)

    def test_as_a_line(self):
        self.refused(NoNumber, 0, START.replace("place b 3", "place b 0").replace("train x at a", "train x at e"))
        self.refused(Twice, "a", START.replace("place b 3", "place a 3"))
        self.refused(NoPlaces, [("a", 2)], "place a 2\ntrain x at q")
        self.refused(NoStretches, [("staff", 0)], "place a 2\nplace b 2\nplace c 2\nstretch staff low\ntrain x at q")
        self.refused(NoPlace, "e", START.replace("long a c low", "long a e low").replace("x at a", "x at q"))
        self.refused(NoLongs, (2, 0, 0), START.replace("long a c low", "long c a low").replace("x at a", "x at q"))

    def test_then_as_the_trains(self):
        rows = START.split("\n")
        self.refused(NoTrains, [], "\n".join(rows[:8] + ["end 0 at d"]))
        self.refused(NoTrains, [], "\n".join(rows[:8]))
        many = [(name, "b") for name in "vwxyz"]
        self.refused(NoTrains, many, "\n".join(rows[:8] + [f"train {name} at b" for name in "vwxyz"]))
        self.refused(Twice, "x", START.replace("train y at a", "train x at e").replace("end 0 at a", "end 0 at d"))
        self.refused(NoPlace, "e", START.replace("train y at a", "train y at e").replace("end 0 at a", "end 0 at d"))
        self.refused(Full, "a", START.replace("train z at c", "train z at a").replace("end 0 at a", "end 0 at d"))

    def test_then_as_the_ends(self):
        rows = START.split("\n")
        self.refused(NoEnds, [], "\n".join(rows[:11]))
        self.refused(NoEnds, ["a"], "\n".join(rows[:12]))
        self.refused(NoEnds, ["a", "c"], "\n".join(rows[:13]))
        self.refused(NoEnds, ["a", "c", "c", "c"], START + "\nend 3 at c")
        self.refused(NoEnds, ["c", "c", "c"], START.replace("end 0 at a", "end 0 at c"))
        self.refused(NoEnds, ["a", "c", "x"], START.replace("end 2 at c", "end 2 at x"))


class Both(unittest.TestCase):
    """Point 106."""

    def test_of_days_by_chance(self):
        for seed in range(60):
            line, trains, ends, day = chance_log(random.Random(seed))
            start, text = start_text(line, trains, ends), day_text(line, trains, ends, day.deeds())
            homes = [line.home(k) for k in range(line.many_stretches())]
            of_start, of_day = read_start(start), read_day(text)
            self.assertEqual((of_start[0].told(),) + of_start[1:], (line.told(), trains, ends or homes))
            self.assertEqual((of_day[0].told(),) + of_day[1:], (line.told(), trains, ends or homes, day.deeds()))
            self.assertEqual((start_text(*of_start), day_text(*of_day)), (start, text))
            self.assertTrue(start.startswith(show_line(line) + "\ntrain "))

    def test_the_day_is_done_again(self):
        for seed in range(20):
            line, trains, ends, day = chance_log(random.Random(seed))
            line, trains, ends, deeds = read_day(day_text(line, trains, ends, day.deeds()))
            again = Day(line, trains, ends)
            for deed in deeds:
                again.do(deed)
            self.assertEqual(everything(again), everything(day))

    def test_what_a_day_began_with(self):
        day = day_behind("leave x b ticket; come x; lose 0")
        self.assertEqual(day.begun(), (TRAINS, ["a", "c", "c"]))
        for part in day.begun():
            part.clear()
        self.assertEqual(day.twin().begun(), (TRAINS, ["a", "c", "c"]))
        self.assertEqual(day_text(day.line(), *day.begun(), day.deeds()), DAY)


if __name__ == "__main__":
    unittest.main()
