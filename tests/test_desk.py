"""Points 111 and 112: the desk, its lines, and what changes what it keeps."""

import random
import unittest

from onestaff.deedtext import deed_text
from onestaff.desk import Desk
from onestaff.errors import Full, Lacks, NoBack, NoEnds, NoLong, NoNumber, NoPlace, NoPlaces, NoRight, NoStart
from onestaff.errors import NoStretch, NoText, NoTrain, NoTrains, NoWay, NoWord, NotHere, NotIn, StaffError, Twice
from tests.desks import ASKED, BEGIN, OTHER, DeskCase, desk_behind, desk_with, seen, shown, tell
from tests.texts import ROWS, chance_log, no_rows
from tests.things import any_things
from tests.walks import chance_deed


class Lines(DeskCase):
    """Point 111."""

    def test_no_text(self):
        for desk in (Desk(), desk_behind("")):
            for thing in any_things() + [("come", "x"), ["undo"], 0]:
                if thing != "":
                    self.no_line(desk, thing)
            self.no_line(desk, "", " ", "  ")

    def test_no_such_line(self):
        lines = ["x", "ok", "start", "table", "Start ", "begin", "starts ", "tables ", "train x at a", "place a 1"]
        lines += ["where", "where X", "where 0", "where abcdefg", "staff x", "staff", "staff 00", "staff 1000000"]
        lines += ["pilot", "pilot x", "long a", "at 0", "inside a", "rights 0", "pending 0 a", "pending a", "words a"]
        lines += ["book 0", "done 1", "may 0", "show a", "spots x", "spots x a", "spots 1 x", "spots x 1 2 3"]
        lines += ["spots x 01", "spots x 1 01"]
        lines += ["wrong x", "wrong x 0", "brings a 0", "brings 0", "undo undo", "undo 1", "none", "never 1", "kept"]
        lines += ["end 0 at a", "NAME", "where NAME", "words ", " words", "TABLE ", "table\nx"]
        for desk in (Desk(), desk_behind("")):
            before = seen(desk)
            self.no_line(desk, *lines)
            self.assertEqual(seen(desk), before)

    def test_deeds_that_are_none(self):
        questions = ("done", "may", "undo", "where a", "pilot 0", "start ", "table ")
        for desk in (Desk(), desk_behind("")):
            self.no_line(desk, *[row for row in no_rows() if row not in questions])

    def test_each_line_with_a_word_more_or_fewer_and_other_blanks(self):
        rows = [row for _, row in ROWS] + [line for line in ASKED if not line.startswith("table")] + ["undo"]
        for desk in (Desk(), desk_behind("")):
            before = seen(desk)
            for row in rows:
                self.no_line(desk, row + " ", " " + row, row + " a a a", row + " 0 0 0", row + "\n", "\n" + row)
                self.no_line(desk, row.upper(), row + " / " + row, row + ".", row + "\n" + row)
                if " " in row:
                    words = row.split(" ")
                    self.no_line(desk, row.replace(" ", "  ", 1), row.replace(" ", "\n", 1), words[0] + " -")
                    if words[:-1] not in (["may"], ["spots", "x", "1"]):
                        self.no_line(desk, " ".join(words[:-1]))
            self.assertEqual(seen(desk), before)

    def test_a_line_feed(self):
        lines = [BEGIN + "\n", BEGIN.replace(" / ", "\n", 1), "start \n", "start\n", "table \n", "table x a b 0 5\n"]
        for desk in (Desk(), desk_behind("")):
            self.no_line(desk, *lines)

    def test_no_day_was_begun(self):
        desk = Desk()
        self.bare(desk, NoStart, *ASKED)
        self.bare(desk, NoStart, *[row for _, row in ROWS])
        self.bare(desk, NoStart, "where q", "table no", "spots x 0", "staff 999999", "book zz")
        with self.assertRaises(NoBack):
            desk.say("undo")

    def test_each_question_is_answered_with_a_text(self):
        desk = desk_behind("leave y to b by ticket; come y; get 0")
        before = seen(desk)
        for line in ASKED:
            self.assertIs(type(desk.say(line)), str)
            self.assertEqual(desk.say(line), desk.say(line))
        self.assertEqual(seen(desk), before)

    def test_four_hundred_lines(self):
        desk = desk_behind("")
        for _ in range(100):
            tell(desk, "leave x to b by staff", "come x", "leave x to a by staff", "come x")
        self.assertEqual((desk.say("done"), desk.say("at a")), ("400", "y x"))
        for _ in range(399):
            tell(desk, "undo")
        self.assertEqual((desk.say("done"), desk.say("at a")), ("1", "y"))


class Starts(DeskCase):
    """Point 112."""

    def test_a_start(self):
        desk = Desk()
        self.assertEqual(desk.say(BEGIN), "ok")
        self.assertEqual(desk.say("show"), BEGIN[6:])

    def test_with_deeds(self):
        desk = Desk()
        rows = " / leave x to b by ticket / come x / lose 0 / again b through 0"
        tell(desk, BEGIN + rows)
        self.assertEqual((desk.say("where x"), desk.say("words"), desk.say("done")), ("at b", "1 b a through 0 1", "3"))
        self.assertEqual(desk.say("show"), BEGIN[6:] + rows)
        # All of these came by one line.
        tell(desk, "undo")
        self.bare(desk, NoStart, "done")

    def test_what_was_kept_ahead_is_kept_no_more(self):
        desk = desk_behind("leave x to b by staff")
        tell(desk, OTHER)
        self.assertEqual((desk.say("done"), desk.say("at a"), desk.say("show")), ("0", "q", OTHER[6:]))
        self.found(desk, NoTrain, "x", "where x")

    def test_no_rows(self):
        for desk in (Desk(), desk_behind("leave x to b by staff")):
            self.found(desk, NoPlaces, [], "start ")
            self.no_line(desk, "start")

    def test_rows_that_the_text_is_refused_for(self):
        for desk in (Desk(), desk_behind("leave x to b by staff")):
            lines = ["start  ", "start x", "start /", "start / ", "start  / ", "start  " + BEGIN[6:]]
            lines += [BEGIN.replace("place a", "place  a"), BEGIN.replace(" / ", "/", 1)]
            self.refused(desk, NoText, "row", 1, *lines)
            self.refused(desk, NoText, "row", 2, *[BEGIN.replace(" / ", by, 1) for by in (" /  / ", " / / ", " /  ")])
            self.refused(desk, NoText, "row", 14, BEGIN + " ", BEGIN + "/", BEGIN + " /")
            self.refused(desk, NoText, "row", 15, BEGIN + " / ", BEGIN + " / no", BEGIN + " / get 0 0")
            self.refused(desk, NoText, "row", 16, BEGIN + " / get 0 / end 3 at c")

    def test_from_the_left(self):
        # Of "a / / b" the first three signs are read as a line feed, so the row behind it is "/ b".
        self.refused(Desk(), NoText, "row", 2, "start place a 1 / / place b 1", "start place a 1 /  / place b 1")
        self.refused(Desk(), NoText, "row", 1, "start / place a 1", "start  / place a 1", "start place a 1/ place b 1")

    def test_refused_as_the_text_is(self):
        for desk in (Desk(), desk_behind("leave x to b by staff")):
            self.found(desk, NoTrains, [], "start place a 1 / place b 1 / stretch staff low / end 0 at a")
            self.found(desk, NoEnds, [], BEGIN.split(" / end")[0])
            self.found(desk, Twice, "x", BEGIN.replace("train y", "train x"))
            self.found(desk, Full, "d", BEGIN.replace("train y at a", "train y at d").replace("z at c", "z at d"))
            self.found(desk, NoNumber, 0, BEGIN.replace("place b 3", "place b 0"))

    def test_refused_as_its_first_deed_that_is_refused(self):
        for desk in (Desk(), desk_behind("leave x to b by staff")):
            self.found(desk, NotIn, "x", BEGIN + " / leave y to b by staff / come x / come z")
            self.found(desk, Lacks, "staff", BEGIN + " / leave y to b by staff / leave x to b by staff / come z")
            self.found(desk, NoTrain, "q", BEGIN + " / come q")
            self.refused(desk, NoText, "row", 16, BEGIN + " / come q / no")

    def test_of_what_show_told(self):
        for seed in range(30):
            line, trains, ends, day = chance_log(random.Random(seed))
            desk = desk_with(day)
            other = Desk()
            tell(other, "start " + desk.say("show"))
            self.assertEqual(other.say("show"), desk.say("show"))
            for place in line.names():
                self.assertEqual(other.say(f"book {place}"), desk.say(f"book {place}"))


class Deeds(DeskCase):
    """Point 112."""

    def test_a_deed(self):
        desk = desk_behind("")
        self.assertEqual(desk.say("leave x to b by ticket"), "ok")
        self.assertEqual((desk.say("where x"), desk.say("done")), ("in a b ticket", "1"))
        self.assertEqual([desk.say(line) for line in ("come x", "lose 0", "again b through 0", "get 1")], ["ok"] * 4)
        self.assertEqual((desk.say("done"), desk.say("pending a 0")), ("4", "none"))

    def test_refused_as_the_day_refuses_it(self):
        desk = desk_behind("leave x to b by ticket")
        self.found(desk, NoTrain, "q", "come q", "leave q to e by staff")
        self.found(desk, NoPlace, "e", "leave y to e by staff", "pilot e 9")
        self.found(desk, NoStretch, 3, "pilot a 3", "lock a 3 for e")
        self.found(desk, NoLong, 1, "take a 1", "box a 1")
        self.found(desk, NoWord, 0, "get 0", "lose 0")
        self.found(desk, NotHere, "x", "leave x to b by staff")
        self.found(desk, NoWay, ("a", "c"), "leave y to c by staff")
        self.found(desk, NoRight, 0, "pilot a 0", "give b 0")

    def test_against_a_day(self):
        for seed in range(15):
            chance = random.Random(seed)
            line, trains, ends, day = chance_log(chance, 10)
            desk = desk_with(day)
            for _ in range(15):
                deed = chance_deed(day, chance)
                if deed is not None:
                    day.do(deed)
                    tell(desk, deed_text(deed))
                self.assert_answers(desk, day)

    def assert_answers(self, desk, day):
        line = day.line()
        rows, words = lambda told: " / ".join(told) or "none", lambda told: " ".join(map(str, told or ())) or "none"
        for train in day.trains():
            self.assertEqual(desk.say(f"where {train}"), words(day.where(train)))
        for k in range(line.many_stretches()):
            self.assertEqual(desk.say(f"staff {k}"), words(day.staff(k)))
            self.assertEqual(desk.say(f"pilot {k}"), words(day.pilot(k)))
            self.assertEqual(desk.say(f"inside {k}"), words(day.inside(k)))
        for j in range(line.many_longs()):
            self.assertEqual(desk.say(f"long {j}"), words(day.long_staff(j)))
        for place in line.names():
            self.assertEqual(desk.say(f"at {place}"), words(day.at(place)))
            self.assertEqual(desk.say(f"rights {place}"), rows([words(right) for right in day.rights(place)]))
            book = [f"{number} {deed_text(deed)}" for number, deed in day.book(place)]
            self.assertEqual(desk.say(f"book {place}"), rows(book))
            self.assertEqual(desk.say(f"may {place}"), rows([deed_text(deed) for deed in day.may(place)]))
            for k in range(line.many_stretches()):
                number = day.pending(place, k)
                self.assertEqual(desk.say(f"pending {place} {k}"), "none" if number is None else str(number))
        self.assertEqual(desk.say("may"), rows([deed_text(deed) for deed in day.may()]))
        self.assertEqual(desk.say("words"), rows([words((number,) + word) for number, word in day.words()]))
        self.assertEqual(desk.say("done"), str(day.done()))
        self.assertEqual(desk.say("show"), shown(day))


class Undo(DeskCase):
    """Point 112."""

    def test_nothing_to_take_back(self):
        desk = Desk()
        self.bare(desk, NoBack, "undo", "undo")
        tell(desk, BEGIN, "undo")
        self.bare(desk, NoBack, "undo")
        self.bare(desk, NoStart, "done")
        tell(desk, BEGIN)
        self.assertEqual(desk.say("done"), "0")

    def test_several_in_a_row(self):
        desk = Desk()
        lines = [BEGIN, "leave x to b by ticket", "come x", OTHER, "leave q to b by staff"]
        lines += [BEGIN, "lock a 0 for b", "lose 0"]
        told = [seen(desk)]
        for line in lines:
            tell(desk, line)
            told.append(seen(desk))
        for before in told[-2::-1]:
            tell(desk, "undo")
            self.assertEqual(seen(desk), before)
        self.bare(desk, NoBack, "undo")

    def test_a_start_behind_another_day(self):
        desk = desk_behind("leave x to b by staff; come x")
        before = seen(desk)
        tell(desk, OTHER, "undo")
        self.assertEqual(seen(desk), before)
        tell(desk, "leave x to a by staff")
        self.assertEqual(desk.say("where x"), "in b a staff")

    def test_between_other_lines(self):
        desk = desk_behind("leave x to b by staff")
        tell(desk, "come x", "undo", "walk x to a", "undo", "undo")
        self.assertEqual((desk.say("where x"), desk.say("done")), ("at a", "0"))
        tell(desk, "leave y to b by staff", "undo")
        self.assertEqual(desk.say("show"), BEGIN[6:])

    def test_what_was_refused_is_no_line_to_take_back(self):
        desk = desk_behind("leave x to b by staff")
        for line in ("come y", "get 0", "start x", BEGIN + " / come x", "no line", "where q", "start "):
            with self.assertRaises(StaffError):
                desk.say(line)
        tell(desk, "undo")
        self.assertEqual(desk.say("show"), BEGIN[6:])

    def test_questions_are_no_lines_to_take_back(self):
        desk = desk_behind("leave x to b by staff")
        for line in ("show", "done", "may", "where x"):
            desk.say(line)
        tell(desk, "undo")
        self.assertEqual(desk.say("where x"), "at a")

    def test_by_chance(self):
        for seed in range(15):
            chance = random.Random(seed)
            line, trains, ends, day = chance_log(chance, 0)
            desk = desk_with(day)
            days = [day]
            for _ in range(40):
                if chance.random() < 0.4 and len(days) > 1:
                    days.pop()
                    tell(desk, "undo")
                else:
                    deed = chance_deed(days[-1], chance)
                    if deed is not None:
                        days.append(days[-1].twin())
                        days[-1].do(deed)
                        tell(desk, deed_text(deed))
                self.assertEqual(desk.say("show"), shown(days[-1]))
                self.assertEqual(desk.say("may").split(" / "), [deed_text(d) for d in days[-1].may()] or ["none"])

    def test_two_desks_have_nothing_in_common(self):
        one, other = desk_behind(""), desk_behind("")
        tell(one, "leave x to b by staff")
        self.assertEqual((one.say("done"), other.say("done")), ("1", "0"))
        tell(other, "undo")
        self.bare(other, NoBack, "undo")
        tell(one, "undo")


if __name__ == "__main__":
    unittest.main()
