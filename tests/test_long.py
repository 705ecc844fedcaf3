"""Points 55 to 57: long staffs."""

import random
import unittest

from onestaff.days import Day
from onestaff.errors import Boxed, Held, Lacks, NoRight, Shut, Taken
from onestaff.lines import Line
from tests.days import TAKE, DayCase, day_behind, deeds_in, full_day
from tests.walks import chance_day, walk

ENDS = ["a", "b", "c"]


class Takes(DayCase):
    def test_taken(self):
        day = day_behind("lock a 0 a; lock b 1 a; get 0", ends=ENDS)
        self.done(
            day, "a", "take a 0", long_0=("at", "a"),
            known_a_0=(0, 0, 0, None, None, 1, None), known_a_1=(1, 0, 0, None, None, 1, None),
        )
        self.assertEqual((day.rights("a"), day.words()), ([], []))
        self.assertEqual([day.staff(k)[0] for k in range(3)], ["locked", "locked", "at"])

    def test_at_the_other_end(self):
        line = Line([(name, 2) for name in "abc"], [("staff", 0)] * 2, [(0, 2, 1)])
        day = Day(line, [("x", "a")])
        for deed in deeds_in("lock a 0 c; lock b 1 c; get 1; get 0"):
            day.do(deed)
        self.done(
            day, "c", "take c 0", long_0=("at", "c"),
            known_c_0=(0, 0, 0, None, None, 1, None), known_c_1=(1, 0, 0, None, None, 1, None),
        )

    def test_lacks(self):
        self.refused(full_day(), Lacks, "long", "take b 0; take c 0; take d 0")
        self.refused(day_behind("lock a 0 c; lock c 1 c; get 0"), Lacks, "long", "take c 0")
        self.refused(day_behind(TAKE + "; leave x c long", ends=ENDS), Lacks, "long", "take a 0; take c 0")
        day = day_behind(TAKE + "; leave a c long", [("a", "a")], ENDS)
        self.refused(day, Lacks, "long", "take a 0; box a 0")

    def test_taken_already(self):
        self.refused(day_behind(TAKE, ends=ENDS), Taken, 0, "take a 0")
        self.refused(day_behind(TAKE + "; leave x c long; come x", ends=ENDS), Taken, 0, "take c 0")
        self.refused(day_behind(TAKE + "; leave x c long; walk x c", ends=ENDS), Taken, 0, "take c 0")

    def test_no_right(self):
        self.refused(full_day(), NoRight, 0, "take a 0")
        self.refused(day_behind("lock a 0 a", ends=ENDS), NoRight, 1, "take a 0")
        self.refused(day_behind("lock b 1 a; get 0", ends=ENDS), NoRight, 0, "take a 0")
        self.refused(day_behind("lock a 0 a; lock b 1 a", ends=ENDS), NoRight, 1, "take a 0")
        self.refused(day_behind("lock a 0 a; lock b 1 c; get 0", ends=ENDS), NoRight, 1, "take a 0")
        self.refused(day_behind("lock a 0 a; lock b 1 a; get 0; pilot a 0", ends=ENDS), NoRight, 0, "take a 0")
        self.refused(day_behind("lock a 0 a; lock b 1 a; get 0; give a 1", ends=ENDS), NoRight, 1, "take a 0")

    def test_rights_of_another_place(self):
        day = day_behind("lock a 0 c; lock b 1 c; get 0; get 1", ends=ENDS)
        self.refused(day, NoRight, 0, "take a 0")

    def test_all_else_is_shut_out(self):
        day = day_behind(TAKE, ends=ENDS)
        self.refused(day, Shut, 0, "leave x b staff; leave x b ticket; lock a 0 b")
        self.refused(day, NoRight, 0, "unlock a 0; pilot a 0; give a 0; pilot b 0")
        self.refused(day, NoRight, 1, "unlock b 1; give a 1; pilot c 1")


class Boxes(DayCase):
    def test_where_it_was_taken(self):
        day = day_behind(TAKE, ends=ENDS)
        self.done(
            day, "a", "box a 0", long_0=("box", "a"), lock_0=(1, (1, "a"), True),
            known_a_0=(0, 0, 0, None, None, 1, (1, "a")), known_a_1=(1, 0, 0, None, None, 1, (1, "b")),
            words=[(1, ("a", "b", "open", 1, 1))],
        )
        self.done(day, "b", "get 1", words=[], lock_1=(1, (1, "a"), True))
        self.done(day, "b", "unlock b 1", staff_1=("at", "b"), lock_1=(1, None, False))
        self.done(day, "a", "unlock a 0", staff_0=("at", "a"), lock_0=(1, None, False))

    def test_at_the_other_end(self):
        day = day_behind(TAKE + "; leave x c long; come x", ends=ENDS)
        self.done(
            day, "c", "box c 0", long_0=("box", "c"),
            known_c_0=(0, 0, 0, None, None, 0, (1, "a")), known_c_1=(1, 0, 0, None, None, 0, (1, "b")),
            words=[(1, ("c", "a", "open", 0, 1)), (2, ("c", "b", "open", 1, 1))],
        )
        day.do(("lose", 2))
        self.done(day, "a", "get 1", words=[], lock_0=(1, (1, "a"), True))
        self.done(day, "c", "again c open 1", words=[(3, ("c", "b", "open", 1, 1))])
        self.done(day, "b", "get 3", words=[], lock_1=(1, (1, "a"), True))

    def test_a_staff_locked_at_the_end_where_it_is_boxed(self):
        text = "lock a 0 a; lock c 1 a; get 0; take a 0; leave x c long; come x"
        day = day_behind(text)
        self.done(
            day, "c", "box c 0", long_0=("box", "c"), lock_1=(1, (1, "a"), True),
            known_c_0=(0, 0, 0, None, None, 0, (1, "a")), known_c_1=(1, 0, 0, None, None, 0, (1, "c")),
            words=[(1, ("c", "a", "open", 0, 1))],
        )

    def test_taken_again_with_later_rights(self):
        text = TAKE + "; box a 0; unlock a 0; get 1; unlock b 1; lock a 0 a; lock b 1 a; get 2; take a 0"
        day = day_behind(text, ends=ENDS)
        self.done(
            day, "a", "box a 0", long_0=("box", "a"), lock_0=(2, (2, "a"), True),
            known_a_0=(0, 0, 0, None, None, 2, (2, "a")), known_a_1=(1, 0, 0, None, None, 2, (2, "b")),
            words=[(3, ("a", "b", "open", 1, 2))],
        )

    def test_boxed_and_taken_back(self):
        text = TAKE + "; leave x c long; come x; box c 0; get 1; get 2; unlock a 0; unlock b 1; lock a 0 c; lock b 1 c"
        day = day_behind(text + "; get 3; get 4", ends=ENDS)
        self.done(
            day, "c", "take c 0", long_0=("at", "c"),
            known_c_0=(0, 0, 0, None, None, 2, (1, "a")), known_c_1=(1, 0, 0, None, None, 2, (1, "b")),
        )

    def test_lacks(self):
        self.refused(full_day(), Lacks, "long", "box b 0; box c 0; box d 0")
        self.refused(day_behind(TAKE + "; leave x c long", ends=ENDS), Lacks, "long", "box a 0; box c 0")
        self.refused(day_behind(TAKE + "; leave x c long; come x", ends=ENDS), Lacks, "long", "box a 0")

    def test_boxed_already(self):
        self.refused(full_day(), Boxed, 0, "box a 0")
        self.refused(day_behind(TAKE + "; box a 0", ends=ENDS), Boxed, 0, "box a 0")

    def test_held(self):
        for place in "ac":
            day = day_behind(f"{TAKE}; leave x c long; walk x {place}", ends=ENDS)
            self.refused(day, Held, "x", f"box {place} 0")

    def test_three_own_stretches(self):
        line = Line([(name, 2) for name in "abcd"], [("staff", 1), ("ticket", 0), ("staff", 0)], [(0, 3, 0)])
        day = Day(line, [("x", "a")])
        for deed in deeds_in("lock b 0 a; lock b 1 a; lock c 2 a; get 0; get 1; get 2; take a 0; leave x d long"):
            day.do(deed)
        self.assertEqual([day.inside(k) for k in range(3)], [["x"]] * 3)
        day.do(("come", "x"))
        self.done(
            day, "d", "box d 0", long_0=("box", "d"), known_d_0=(0, 0, 0, None, None, 0, (1, "b")),
            known_d_1=(1, 0, 0, None, None, 0, (1, "b")), known_d_2=(2, 0, 0, None, None, 0, (1, "c")),
            words=[(3, ("d", "b", "open", 0, 1)), (4, ("d", "b", "open", 1, 1)), (5, ("d", "c", "open", 2, 1))],
        )

    def test_two_long_ones(self):
        line = Line([(name, 3) for name in "abcde"], [("staff", 0)] * 4, [(0, 2, 0), (2, 4, 0)])
        day = Day(line, [("x", "c"), ("y", "a")])
        for deed in deeds_in("lock c 2 c; lock d 3 c; get 0"):
            day.do(deed)
        self.refused(day, NoRight, 0, "take a 0")
        self.refused(day, Lacks, "long", "take c 0; take a 1")
        day.do(("take", "c", 1))
        self.done(day, "c", "leave x e long", where_x=("in", "c", "e", "long"), at_c=[], long_1=("with", "x"))
        self.assertEqual(day.long_staff(0), ("box", "a"))


class AllWritten(unittest.TestCase):
    def test_at_the_place(self):
        words = ("lock", "pilot", "unlock", "give", "take", "box", "again")
        seen = set()
        for seed in range(40):
            chance = random.Random(seed)
            day = chance_day(chance)
            walk(day, chance, 60)
            for name in day.line().names():
                for _, deed in day.book(name):
                    if deed[0] in words:
                        self.assertEqual(deed[1], name)
                        seen.add(deed[0])
        self.assertEqual(seen, set(words))


if __name__ == "__main__":
    unittest.main()
