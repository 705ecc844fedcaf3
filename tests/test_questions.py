"""Points 113 and 114: what a desk answers to questions."""

import random
import unittest

from onestaff.books import books_of
from onestaff.days import Day
from onestaff.errors import NoLong, NoNumber, NoPlace, NoRun, NoRuns, NoState, NoStretch, NoText
from onestaff.errors import NoTrain, NoTrip, NoWay, StaffError, TooMany
from onestaff.maybe import may_be
from onestaff.moves import brings
from onestaff.stands import wrong
from onestaff.times import looked
from tests.days import day_behind, everything
from tests.desks import BEGIN, OTHER, DeskCase, desk_behind, desk_with, seen, shown, tell
from tests.stands import chance_stand
from tests.test_times import chance_runs
from tests.texts import chance_log


class Questions(DeskCase):
    """Point 113."""

    def answers(self, desk, **told):
        for line, answer in told.items():
            self.assertEqual(desk.say(line.replace("_", " ")), answer, line)

    def test_a_new_day(self):
        self.answers(
            desk_behind(""), where_x="at a", staff_1="at c", pilot_0="none", long_0="box a", at_a="x y", at_b="none",
            inside_0="none", rights_a="none", pending_a_0="none", words="none", book_a="none", done="0",
            show=BEGIN[6:],
        )
        self.assertEqual(desk_behind("").say("may d"), "none")

    def test_a_busy_day(self):
        desk = desk_behind("leave x to b by ticket; walk x to a; help y x; lock c 2 for d; leave z to b by staff")
        self.answers(
            desk, where_x="helped a b ticket y", where_y="helping a x", where_z="in c b staff", staff_0="with x",
            staff_1="with z", staff_2="locked c d", at_a="none", inside_0="x y", inside_1="z", inside_2="none",
            pending_a_0="1", pending_b_0="none", words="0 c d lock 2 1", done="5", book_b="none",
            book_a="1 leave x to b by ticket / 2 walk x to a / 3 help y x",
            book_c="4 lock c 2 for d / 5 leave z to b by staff",
            may="come z / walk z to b / walk z to c / bring x to a / bring x to b / again c lock 2 / get 0 / lose 0",
            may_c="walk z to c / again c lock 2", may_d="get 0",
        )

    def test_held_things_pilots_and_rights(self):
        desk = desk_behind("leave z to b by staff; walk z to b; lock a 0 for b; get 0")
        self.answers(
            desk, where_z="stopped c b staff", staff_1="held b z", rights_b="0 1 a", rights_a="none", words="none",
        )
        tell(desk, "pilot b 0")
        self.answers(desk, rights_b="none", pilot_0="at b", staff_0="locked a b")
        desk = desk_behind("lock a 0 for a; lock c 2 for d; get 0; lock c 1 for b; get 1")
        self.answers(desk, rights_a="0 1 a", rights_d="2 1 c", rights_b="1 1 c")
        tell(desk, "pilot a 0", "leave x to b by pilot")
        self.answers(desk, pilot_0="with x", where_x="in a b pilot")

    def test_several_rights_and_a_long_staff(self):
        begin = BEGIN.replace("end 1 at c", "end 1 at b")
        desk = desk_behind("lock a 0 for a; lock b 1 for a; get 0", begin)
        self.answers(desk, rights_a="0 1 a / 1 1 b")
        tell(desk, "take a 0")
        self.answers(desk, long_0="at a", rights_a="none")
        tell(desk, "leave y to c by long")
        self.answers(desk, long_0="with y", inside_0="y", inside_1="y", where_y="in a c long")

    def test_several_words(self):
        desk = desk_behind("leave x to b by ticket; come x; again b through 0; lock c 2 for d; lose 1")
        self.answers(desk, words="0 b a through 0 1 / 2 c d lock 2 1", done="4")

    def test_lost_words_are_shown(self):
        desk = desk_behind("leave x to b by ticket; come x; lose 0")
        self.answers(desk, show=BEGIN[6:] + " / leave x to b by ticket / come x / lose 0", done="2")

    def test_refused_as_the_day_refuses_them(self):
        desk = desk_behind("leave x to b by ticket")
        self.found(desk, NoTrain, "q", "where q", "spots q 1", "spots q 9 9")
        self.found(desk, NoPlace, "e", "at e", "rights e", "book e", "may e", "pending e 0", "pending e 9")
        self.found(desk, NoStretch, 3, "staff 3", "pilot 3", "inside 3", "pending a 3")
        self.found(desk, NoStretch, 999999, "staff 999999")
        self.found(desk, NoLong, 1, "long 1")

    def test_behind_a_refusal(self):
        desk = desk_behind("leave x to b by ticket")
        for line in ("come y", "no line", "start x", "where q"):
            with self.assertRaises(StaffError):
                desk.say(line)
            self.answers(desk, where_x="in a b ticket", done="1")


class Spots(DeskCase):
    """Point 113."""

    def test_one_and_two_and_the_same_twice(self):
        desk = desk_behind("leave x to b by ticket; come x; get 0; leave y to b by staff")
        self.assertEqual(desk.say("spots y 4"), "at a / in a b staff / in a b ticket")
        self.assertEqual(desk.say("spots y 4 4"), "at a / in a b staff / in a b ticket")
        self.assertEqual(desk.say("spots x 4"), "at b")
        self.assertEqual(desk.say("spots x 1 2"), desk.say("spots x 2 1"))
        self.assertEqual(desk.say("spots x 4 1"), desk.say("spots x 1 4"))

    def test_as_is_told_of_rows(self):
        asked_for = 0
        for seed in range(25):
            chance = random.Random(seed)
            line, trains, ends, day = chance_log(chance, 12)
            if not 1 <= day.done() <= 24:
                continue
            desk = desk_with(day)
            entries = sorted((n, place, deed) for place, book in books_of(day).items() for n, deed in book)
            lost = chance.choices(range(1, day.done() + 1), k=2)
            for numbers in (lost, lost[:1], lost[:1] * 2):
                rows = [(place, None if n in numbers else deed) for n, place, deed in entries]
                of_trains, _ = may_be(line, trains, ends, rows)
                for train in day.trains():
                    told = desk.say(" ".join(["spots", train] + [str(n) for n in numbers]))
                    self.assertEqual(told, " / ".join(" ".join(spot) for spot in of_trains[train]))
                    asked_for += 1
        self.assertGreater(asked_for, 60)

    def test_numbers_that_no_entry_has(self):
        desk = desk_behind("leave x to b by ticket; come x; lose 0")
        self.found(desk, NoNumber, 3, "spots x 3", "spots x 1 3", "spots x 3 1", "spots x 3 4", "spots x 3 0")
        self.found(desk, NoNumber, 0, "spots x 0", "spots x 2 0", "spots x 0 3")
        self.found(desk, NoTrain, "q", "spots q 0", "spots q 1 9")
        self.found(desk_behind(""), NoNumber, 1, "spots x 1")

    def test_beyond_twenty_four_entries(self):
        desk = desk_behind("leave x to b by ticket; come x" + "; again b through 0" * 22)
        self.assertEqual((desk.say("done"), desk.say("spots x 1 24")), ("24", "at b"))
        tell(desk, "lose 5")
        self.assertEqual(desk.say("spots x 24"), "at b")
        tell(desk, "again b through 0")
        self.refused(desk, TooMany, "many", 25, "spots x 1", "spots y 25 25", "spots x 1 2")
        self.found(desk, NoNumber, 26, "spots x 26")
        self.found(desk, NoTrain, "q", "spots q 26")


class AtRest(DeskCase):
    """Point 114."""

    LINES = ["wrong x b", "brings 0 b", "table x a b 0 5", "table "]
    LINES += ["wrong q e", "brings 9 e", "table no", "brings 0 d"]

    def test_wrong(self):
        desk = desk_behind("")
        self.assertEqual([desk.say("wrong x b"), desk.say("wrong z b"), desk.say("wrong z d")], ["none"] * 3)
        tell(desk, "leave z to d by ticket", "come z", "get 0")
        self.assertEqual(desk.say("wrong z c"), "staff 2 c")
        desk = desk_behind("", BEGIN.replace("place c 2", "place c 1").replace("end 1 at c", "end 1 at b"))
        tell(desk, "leave y to b by staff", "come y")
        self.assertEqual((desk.say("wrong y c"), desk.say("wrong y a")), ("full c", "none"))
        self.found(desk, NoTrain, "q", "wrong q a", "wrong q e")
        self.found(desk, NoPlace, "e", "wrong x e")
        self.found(desk, NoWay, ("a", "a"), "wrong x a")
        self.found(desk, NoWay, ("b", "d"), "wrong y d")

    def test_brings(self):
        desk = desk_behind("")
        self.assertEqual((desk.say("brings 0 a"), desk.say("brings 1 b")), ("none", "z b staff"))
        self.assertIn(desk.say("brings 0 b"), ("x b staff", "y b staff"))
        begin = "start place a 1 / place b 1 / place c 1 / place d 1 / stretch staff low / stretch staff low"
        begin += " / stretch staff low / train x at a / train y at c / end 0 at a / end 1 at b / end 2 at c"
        desk = desk_behind("", begin)
        told = ["x b staff / y d staff / x c staff", "y d staff / x b staff / x c staff"]
        self.assertIn(desk.say("brings 1 c"), told)
        desk = desk_behind("", OTHER.replace("end 0 at a", "end 0 at b"))
        self.assertEqual((desk.say("brings 0 a"), desk.say("brings 0 b")), ("never 1", "none"))

    def test_brings_refused(self):
        desk = desk_behind("")
        self.found(desk, NoStretch, 3, "brings 3 e")
        self.found(desk, NoPlace, "e", "brings 0 e")
        self.found(desk, NoWay, (0, "c"), "brings 0 c")
        places = " / ".join(f"place {name} 3" for name in "abcdef")
        begin = f"start {places}" + " / stretch ticket low" * 5 + " / train x at a / train y at a / train z at a"
        begin += "".join(f" / end {k} at {name}" for k, name in enumerate("abcde"))
        desk = desk_behind("", begin)
        self.refused(desk, TooMany, "many", 6912, "brings 0 b", "brings 0 a")
        self.found(desk, NoWay, (0, "c"), "brings 0 c")

    def test_table(self):
        desk = desk_behind("")
        self.assertEqual(desk.say("table "), "kept")
        self.assertEqual(desk.say("table x a b 0 5"), "kept staff")
        self.assertEqual(desk.say("table x a b 0 5 / y a b 5 9"), "kept ticket staff")
        self.assertEqual(desk.say("table x a b 0 5 / y a b 4 9"), "meet 0 0 1")
        self.assertEqual(desk.say("table z c d 0 5 / y a b 4 9"), "kept staff staff")
        self.assertEqual(desk.say("table x a b 0 5 / x b c 5 9"), "wrong 1 1")
        self.assertEqual(desk.say("table z c b 0 5 / z b c 5 6 / z c d 6 7 / z d c 7 8"), "kept" + " staff" * 4)
        begin = BEGIN.replace("z at c", "z at d").replace("end 1 at c", "end 1 at b").replace("place c 2", "place c 1")
        desk = desk_behind("", begin)
        tell(desk, "leave x to b by ticket", "come x", "get 0", "leave x to c by staff", "come x")
        self.assertEqual(desk.say("table x c d 0 5"), "full d 0")
        self.assertEqual(desk.say("table x c b 0 5 / y a b 0 5 / y b c 5 6"), "kept staff staff staff")
        self.assertEqual(desk.say("table x c b 0 5 / y a b 0 5 / y b c 5 6 / x b c 6 7"), "follow 1 2 3")

    def test_table_refused(self):
        desk = desk_behind("")
        self.no_line(desk, "table")
        lines = ["table  ", "table x", "table  x a b 0 5", "table x a b 0 5 ", "table x a b 0 05", "table / x a b 0 5"]
        lines += ["table x  a b 0 5", "table  / x a b 0 5", "table x a b 0 5/ y a b 5 9"]
        self.refused(desk, NoText, "row", 1, *lines)
        rows = ["x a b 0 5 / ", "x a b 0 5 / / y a b 5 9", "x a b 0 5 / y a b 0 10000"]
        self.refused(desk, NoText, "row", 2, *["table " + row for row in rows])
        self.found(desk, NoRun, ("q", "a", "b", 0, 5), "table q a b 0 5")
        self.found(desk, NoRun, ("x", "a", "c", 0, 5), "table x a b 0 5 / x a c 0 5")
        self.found(desk, NoRun, ("x", "a", "b", 5, 5), "table x a b 5 5 / x a b 9 8")
        self.refused(desk, NoTrip, "run", 0, "table x b c 0 5")
        self.refused(desk, NoTrip, "run", 1, "table x a b 0 5 / x b c 4 6")
        run = ("x", "a", "b", 0, 5)
        self.found(desk, NoRuns, [run] * 25, "table " + " / ".join(["x a b 0 5"] * 25))
        self.refused(desk, NoTrip, "run", 1, "table " + " / ".join(["x a b 0 5"] * 24))

    def test_the_day_is_no_stand(self):
        for deeds in ("leave x to b by ticket", "leave x to b by ticket; come x", "lock a 0 for b"):
            desk = desk_behind(deeds)
            for line in self.LINES:
                self.assert_no_state(desk, line)
            self.no_line(desk, "table", "wrong x", "brings 0")

    def assert_no_state(self, desk, line):
        with self.assertRaises(NoState) as caught:
            desk.say(line)
        day = caught.exception.found
        self.assertIs(type(day), Day)
        before = seen(desk)
        self.assertEqual(before[0], shown(day))
        self.assertEqual([desk.say(f"where {train}") for train in "xyz"], [" ".join(day.where(t)) for t in "xyz"])
        # It is another day than the desk's, and than that of another refusal.
        day.do(day.may()[0])
        self.assertEqual(seen(desk), before)
        with self.assertRaises(NoState) as caught:
            desk.say(line)
        self.assertEqual(caught.exception.found.done(), day.done() - 1)

    def test_no_state_is_told_alike(self):
        desk = desk_behind("leave x to b by ticket; come x")
        with self.assertRaises(NoState) as caught:
            desk.say("table ")
        self.assertEqual(everything(caught.exception.found), everything(day_behind("leave x b ticket; come x")))

    def test_as_is_told_of_the_stand(self):
        for seed in range(40):
            chance = random.Random(seed)
            stand = chance_stand(chance)
            line = stand.line()
            desk = desk_with(stand.start())
            self.assert_runs(desk, stand, chance)
            for train in stand.trains():
                for to in line.names():
                    if line.between(stand.place_of(train), to) is not None:
                        told = " ".join(map(str, wrong(stand, train, to) or ["none"]))
                        self.assertEqual(desk.say(f"wrong {train} {to}"), told)
            if len(line.names()) < 5:
                self.assert_brings(desk, stand)

    def assert_runs(self, desk, stand, chance):
        for _ in range(5):
            runs = chance_runs(stand, chance)
            told = looked(stand, runs)
            words = ["kept"] + told[1] if told[0] == "kept" else told
            rows = " / ".join(" ".join(map(str, run)) for run in runs)
            self.assertEqual(desk.say("table " + rows), " ".join(map(str, words)))

    def assert_brings(self, desk, stand):
        for k in range(stand.line().many_stretches()):
            for place in stand.line().ends(k):
                word, told = brings(stand, k, place)
                answer = desk.say(f"brings {k} {place}")
                if word == "never":
                    self.assertEqual(answer, f"never {len(told)}")
                    continue
                moves = [tuple(row.split(" ")) for row in answer.split(" / ")] if answer != "none" else []
                self.assertEqual(len(moves), len(told))
                behind = stand
                for move in moves:
                    behind = behind.moved(move)
                self.assertEqual(behind.staff_at(k), place)


if __name__ == "__main__":
    unittest.main()
