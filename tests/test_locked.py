"""Points 51 to 54: locked staffs, the rights of places, pilots."""

import unittest

from onestaff.days import Day
from onestaff.errors import Held, Lacks, NoRight, NotClear, NotShut, NoUse, Shut, Silent
from onestaff.lines import Line
from tests.days import DayCase, day_behind, full_day

ENDS = ["a", "b", "c"]
THREE = [("x", "b"), ("y", "b"), ("w", "b")]


class Locks(DayCase):
    def test_for_the_other_end(self):
        day = full_day()
        self.done(
            day, "c", "lock c 2 d", staff_2=("locked", "c", "d"), lock_2=(1, (1, "d"), False),
            words=[(0, ("c", "d", "lock", 2, 1))],
        )
        self.assertEqual(day.rights("d"), [])

    def test_for_the_place_itself(self):
        day = full_day()
        self.done(
            day, "a", "lock a 0 a", staff_0=("locked", "a", "a"), lock_0=(1, (1, "a"), False),
            known_a_0=(0, 0, 0, None, (1, "a"), 1, None),
        )
        self.assertEqual((day.rights("a"), day.words()), ([(0, 1, "a")], []))

    def test_for_an_end_of_the_long_one(self):
        day = full_day()
        self.done(
            day, "a", "lock a 0 c", staff_0=("locked", "a", "c"), lock_0=(1, (1, "c"), False),
            words=[(0, ("a", "c", "lock", 0, 1))],
        )
        day = full_day(ends=ENDS)
        self.done(
            day, "b", "lock b 1 a", staff_1=("locked", "b", "a"), lock_1=(1, (1, "a"), False),
            words=[(0, ("b", "a", "lock", 1, 1))],
        )

    def test_the_next_lock_has_the_next_number(self):
        day = day_behind("lock a 0 a; unlock a 0; leave x b staff; come x")
        self.done(
            day, "b", "lock b 0 c", staff_0=("locked", "b", "c"), lock_0=(2, (2, "c"), False),
            words=[(0, ("b", "c", "lock", 0, 2))],
        )

    def test_lacks(self):
        self.refused(full_day(), Lacks, "staff", "lock b 0 a; lock c 0 a; lock d 0 a; lock b 1 c; lock a 2 d")
        self.refused(day_behind("leave x b staff"), Lacks, "staff", "lock a 0 b; lock b 0 a")
        self.refused(day_behind("lock a 0 b"), Lacks, "staff", "lock b 0 a; lock b 0 d")

    def test_no_use(self):
        self.refused(full_day(), NoUse, "d", "lock a 0 d; lock c 1 d")
        self.refused(full_day(), NoUse, "c", "lock c 2 c")
        self.refused(full_day(), NoUse, "a", "lock c 2 a")
        self.refused(full_day(), NoUse, "b", "lock c 2 b")
        self.refused(full_day(ends=ENDS), NoUse, "b", "lock b 1 b")
        self.refused(full_day(ends=["b", "b", "c"]), NoUse, "b", "lock b 0 b")

    def test_no_use_goes_ahead_of_shut_held_and_not_clear(self):
        self.refused(day_behind("lock a 0 b"), NoUse, "d", "lock a 0 d")
        self.refused(day_behind("leave x b staff; walk x a"), NoUse, "d", "lock a 0 d")
        self.refused(day_behind("leave x b ticket"), NoUse, "d", "lock a 0 d")

    def test_shut_held_and_not_clear(self):
        self.refused(day_behind("lock a 0 b"), Shut, 0, "lock a 0 a; lock a 0 b; lock a 0 c")
        self.refused(day_behind("lock a 0 a"), Shut, 0, "lock a 0 a; lock a 0 b")
        self.refused(day_behind("leave x b staff; walk x a"), Held, "x", "lock a 0 b; lock a 0 a")
        self.refused(day_behind("leave x b staff; walk x b"), Held, "x", "lock b 0 a")
        self.refused(day_behind("leave x b ticket; walk x a"), Held, "x", "lock a 0 b")
        self.refused(day_behind("leave x b ticket"), NotClear, 1, "lock a 0 b")
        self.refused(day_behind("leave x b ticket; come x; lose 0"), NotClear, 1, "lock a 0 a")

    def test_no_long_one_over_the_stretch(self):
        line = Line([(name, 1) for name in "abcdef"], [("staff", 0)] * 5, [(0, 2, 1), (3, 5, 0)])
        day = Day(line, [("x", "c")])
        self.refused(day, NoUse, "c", "lock c 2 c")
        self.refused(day, NoUse, "f", "lock c 2 f; lock a 0 f; lock b 1 f")
        self.refused(day, NoUse, "a", "lock d 3 a; lock e 4 a; lock c 2 a")
        self.done(
            day, "e", "lock e 4 d", staff_4=("locked", "e", "d"), lock_4=(1, (1, "d"), False),
            words=[(0, ("e", "d", "lock", 4, 1))],
        )


class Rights(DayCase):
    def test_got(self):
        day = day_behind("lock a 0 b")
        self.done(day, "b", "get 0", words=[], known_b_0=(0, 0, 0, None, (1, "a"), 1, None))
        self.assertEqual([day.rights(name) for name in "abcd"], [[], [(0, 1, "a")], [], []])

    def test_got_at_an_end_of_the_long_one(self):
        day = day_behind("lock a 0 c; lock c 1 c")
        self.done(day, "c", "get 0", words=[], known_c_0=(0, 0, 0, None, (1, "a"), 1, None))
        self.assertEqual(day.rights("c"), [(0, 1, "a"), (1, 1, "c")])

    def test_got_twice(self):
        day = day_behind("lock a 0 b; again a lock 0; get 1")
        self.done(day, "b", "get 0", words=[])
        self.assertEqual(day.rights("b"), [(0, 1, "a")])

    def test_got_late(self):
        for text in ("pilot b 0", "give b 0"):
            day = day_behind(f"lock a 0 b; again a lock 0; get 0; {text}")
            words = [row for row in day.words() if row[0] != 1]
            self.done(day, "b", "get 1", words=words)
            self.assertEqual(day.rights("b"), [])

    def test_got_of_an_elder_lock(self):
        text = "lock a 0 b; again a lock 0; get 0; give b 0; get 2; unlock a 0; lock a 0 b"
        day = day_behind(text)
        self.done(day, "b", "get 1", words=[(3, ("a", "b", "lock", 0, 2))])
        self.assertEqual(day.rights("b"), [])
        self.done(day, "b", "get 3", words=[], known_b_0=(0, 0, 0, None, (2, "a"), 2, (1, "a")))

    def test_elder_behind_a_younger_one(self):
        day = day_behind("lock a 0 b; again a lock 0; get 0; give b 0; get 2; unlock a 0; lock a 0 b; get 3")
        self.done(day, "b", "get 1", words=[])
        self.assertEqual(day.rights("b"), [(0, 2, "a")])


class LockAgain(DayCase):
    def test_lost_and_said_again(self):
        day = day_behind("lock a 0 b; lose 0")
        self.done(day, "a", "again a lock 0", words=[(1, ("a", "b", "lock", 0, 1))])
        day.do(("get", 1))
        self.done(day, "a", "again a lock 0", words=[(2, ("a", "b", "lock", 0, 1))])
        day.do(("pilot", "b", 0))
        self.done(day, "a", "again a lock 0", words=[(n, ("a", "b", "lock", 0, 1)) for n in (2, 3)])

    def test_of_the_last_lock(self):
        day = day_behind("lock a 0 b; get 0; give b 0; get 1; unlock a 0; lock a 0 c; lose 2")
        self.done(day, "a", "again a lock 0", words=[(3, ("a", "c", "lock", 0, 2))])

    def test_nothing_to_say(self):
        self.refused(full_day(), Silent, ("lock", 0), "again a lock 0; again b lock 0")
        self.refused(day_behind("lock a 0 a"), Silent, ("lock", 0), "again a lock 0")
        day = day_behind("lock a 0 b")
        self.refused(day, Silent, ("lock", 0), "again b lock 0; again c lock 0; again d lock 0")
        self.refused(day, Silent, ("lock", 1), "again a lock 1")
        self.refused(day_behind("lock a 0 b; get 0; give b 0; get 1"), Silent, ("lock", 0), "again a lock 0")
        day = day_behind("lock a 0 b; get 0; give b 0; get 1; unlock a 0")
        self.refused(day, Silent, ("lock", 0), "again a lock 0; again b lock 0")


class Pilots(DayCase):
    def test_appointed(self):
        day = day_behind("lock a 0 b; get 0")
        self.done(day, "b", "pilot b 0", pilot_0=("at", "b"), known_b_0=(0, 0, 0, None, None, 1, None))
        self.assertEqual(day.rights("b"), [])

    def test_where_the_staff_is_locked(self):
        day = day_behind("lock a 0 a")
        self.done(day, "a", "pilot a 0", pilot_0=("at", "a"), known_a_0=(0, 0, 0, None, None, 1, None))

    def test_at_an_end_of_the_long_one(self):
        day = day_behind("lock b 0 c; get 0", ends=["b", "c", "c"])
        self.refused(day, NoUse, "c", "pilot c 0")
        self.assertEqual(day.rights("c"), [(0, 1, "b")])

    def test_no_use(self):
        self.refused(full_day(), NoUse, "c", "pilot c 0")
        self.refused(full_day(), NoUse, "d", "pilot d 0; pilot d 1")
        self.refused(full_day(), NoUse, "a", "pilot a 1; pilot a 2")

    def test_no_right(self):
        self.refused(full_day(), NoRight, 0, "pilot a 0; pilot b 0")
        self.refused(day_behind("lock a 0 b"), NoRight, 0, "pilot a 0; pilot b 0")
        self.refused(day_behind("lock a 0 b; get 0"), NoRight, 1, "pilot b 1")
        self.refused(day_behind("lock a 0 b; get 0"), NoRight, 0, "pilot a 0")
        self.refused(day_behind("lock a 0 b; get 0; pilot b 0"), NoRight, 0, "pilot b 0")
        self.refused(day_behind("lock a 0 b; get 0; give b 0"), NoRight, 0, "pilot b 0")


class Unlocks(DayCase):
    def test_an_open_one(self):
        day = day_behind("lock a 0 b; get 0; give b 0; get 1")
        self.done(day, "a", "unlock a 0", staff_0=("at", "a"), lock_0=(1, None, False))

    def test_by_the_pilot(self):
        day = day_behind("lock a 0 b; get 0; pilot b 0; leave x a pilot; come x", [("x", "b")])
        self.done(day, "a", "unlock a 0", staff_0=("at", "a"), lock_0=(1, None, False), pilot_0=None)

    def test_by_the_pilot_of_a_later_lock(self):
        text = "lock a 0 b; get 0; give b 0; get 1; unlock a 0; lock a 0 a; pilot a 0"
        day = day_behind(text)
        self.done(day, "a", "unlock a 0", staff_0=("at", "a"), lock_0=(2, None, False), pilot_0=None)

    def test_by_the_places_own_right(self):
        day = day_behind("lock a 0 a")
        self.done(
            day, "a", "unlock a 0", staff_0=("at", "a"), lock_0=(1, None, False),
            known_a_0=(0, 0, 0, None, None, 1, None),
        )

    def test_by_the_pilot_of_just_this_stretch(self):
        line = Line([("a", 1), ("b", 2), ("c", 1)], [("staff", 1), ("staff", 0)])
        day = Day(line, [("x", "a"), ("y", "c")])
        for deed in [("lock", "b", 0, "a"), ("lock", "b", 1, "c"), ("get", 0), ("pilot", "a", 0),
                     ("leave", "x", "b", "pilot"), ("come", "x")]:
            day.do(deed)
        self.refused(day, NoRight, 1, "unlock b 1")
        self.done(day, "b", "unlock b 0", staff_0=("at", "b"), lock_0=(1, None, False), pilot_0=None)

    def test_lacks(self):
        self.refused(full_day(), Lacks, "staff", "unlock b 0; unlock d 0; unlock b 1")
        self.refused(day_behind("leave x b staff"), Lacks, "staff", "unlock a 0; unlock b 0")
        self.refused(day_behind("lock a 0 b; get 0; pilot b 0"), Lacks, "staff", "unlock b 0")

    def test_not_shut(self):
        self.refused(full_day(), NotShut, 0, "unlock a 0")
        self.refused(day_behind("leave x b staff; walk x a"), NotShut, 0, "unlock a 0")
        self.refused(day_behind("lock a 0 a; unlock a 0"), NotShut, 0, "unlock a 0")
        self.refused(day_behind("lock a 0 a"), NotShut, 1, "unlock c 1")

    def test_a_pilot_held(self):
        day = day_behind("lock a 0 a; pilot a 0; leave x b pilot; walk x a")
        self.refused(day, Held, "x", "unlock a 0")

    def test_no_right(self):
        self.refused(day_behind("lock a 0 b"), NoRight, 0, "unlock a 0")
        self.refused(day_behind("lock a 0 b; get 0"), NoRight, 0, "unlock a 0")
        self.refused(day_behind("lock a 0 b; get 0; give b 0"), NoRight, 0, "unlock a 0")
        self.refused(day_behind("lock a 0 b; get 0; pilot b 0"), NoRight, 0, "unlock a 0")
        day = day_behind("lock a 0 b; get 0; pilot b 0; leave a a pilot", [("a", "b")])
        self.refused(day, NoRight, 0, "unlock a 0")
        day = day_behind("lock a 0 b; get 0; pilot b 0; leave x a pilot; walk x b", [("x", "b")])
        self.refused(day, NoRight, 0, "unlock a 0")


class GivesUp(DayCase):
    def test_told_by_a_word(self):
        day = day_behind("lock a 0 b; get 0")
        self.done(
            day, "b", "give b 0", words=[(1, ("b", "a", "open", 0, 1))],
            known_b_0=(0, 0, 0, None, None, 1, (1, "a")),
        )
        self.done(day, "a", "get 1", words=[], lock_0=(1, (1, "b"), True))
        self.assertEqual(day.staff(0), ("locked", "a", "b"))

    def test_at_the_place_itself(self):
        day = day_behind("lock a 0 a")
        self.done(
            day, "a", "give a 0", lock_0=(1, (1, "a"), True), known_a_0=(0, 0, 0, None, None, 1, (1, "a")),
        )
        self.done(day, "a", "unlock a 0", staff_0=("at", "a"), lock_0=(1, None, False))

    def test_no_right(self):
        self.refused(full_day(), NoRight, 0, "give a 0; give b 0; give d 0")
        self.refused(day_behind("lock a 0 b; get 0"), NoRight, 0, "give a 0; give c 0")
        self.refused(day_behind("lock a 0 b; get 0"), NoRight, 1, "give b 1")
        self.refused(day_behind("lock a 0 b; get 0; give b 0"), NoRight, 0, "give b 0")
        self.refused(day_behind("lock a 0 b; get 0; pilot b 0"), NoRight, 0, "give b 0")

    def test_a_word_of_an_elder_lock_opens_nothing(self):
        day = day_behind("lock a 0 b; get 0; give b 0; again b open 0; get 1; unlock a 0; lock a 0 b")
        self.done(day, "a", "get 2", words=[(3, ("a", "b", "lock", 0, 2))])
        self.assertEqual(day.lock_of(0), (2, (2, "b"), False))
        day = day_behind("lock a 0 b; get 0; give b 0; again b open 0; get 1; unlock a 0")
        self.done(day, "a", "get 2", words=[])

    def test_a_word_where_the_staff_lies_no_more(self):
        text = "lock a 0 b; get 0; give b 0; again b open 0; get 1; unlock a 0; leave x b staff"
        day = day_behind(text)
        self.done(day, "a", "get 2", words=[])
        self.assertEqual(day.lock_of(0), (1, None, False))
        day = day_behind(text + "; come x; lock b 0 a")
        self.done(day, "a", "get 2", words=[(3, ("b", "a", "lock", 0, 2))])
        self.assertEqual(day.lock_of(0), (2, (2, "a"), False))

    def test_a_word_got_twice(self):
        day = day_behind("lock a 0 b; get 0; give b 0; again b open 0; get 1")
        self.done(day, "a", "get 2", words=[])
        self.assertEqual(day.lock_of(0), (1, (1, "b"), True))


class OpenAgain(DayCase):
    def test_lost_and_said_again(self):
        day = day_behind("lock a 0 b; get 0; give b 0; lose 1")
        self.done(day, "b", "again b open 0", words=[(2, ("b", "a", "open", 0, 1))])
        self.done(day, "b", "again b open 0", words=[(n, ("b", "a", "open", 0, 1)) for n in (2, 3)])
        self.done(day, "a", "get 3", words=[(2, ("b", "a", "open", 0, 1))], lock_0=(1, (1, "b"), True))
        day.do(("unlock", "a", 0))
        self.done(day, "b", "again b open 0", words=[(n, ("b", "a", "open", 0, 1)) for n in (2, 4)])

    def test_of_the_last_one_noted(self):
        text = "lock a 0 b; get 0; give b 0; get 1; unlock a 0; lock a 0 b; get 2"
        day = day_behind(text)
        self.done(day, "b", "again b open 0", words=[(3, ("b", "a", "open", 0, 1))])
        day.do(("give", "b", 0))
        self.done(day, "b", "again b open 0", words=[
            (3, ("b", "a", "open", 0, 1)), (4, ("b", "a", "open", 0, 2)), (5, ("b", "a", "open", 0, 2)),
        ])

    def test_nothing_to_say(self):
        self.refused(day_behind("lock a 0 b; get 0"), Silent, ("open", 0), "again b open 0; again a open 0")
        self.refused(day_behind("lock a 0 a; give a 0"), Silent, ("open", 0), "again a open 0")
        day = day_behind("lock a 0 b; get 0; give b 0")
        self.refused(day, Silent, ("open", 0), "again a open 0; again c open 0; again d open 0")
        self.refused(day, Silent, ("open", 1), "again b open 1")
        self.refused(day, Silent, ("through", 0), "again b through 0")

    def test_at_an_end_of_the_long_one(self):
        day = day_behind("lock a 0 c; get 0; give c 0; lose 1")
        self.done(day, "c", "again c open 0", words=[(2, ("c", "a", "open", 0, 1))])
        self.done(day, "a", "get 2", words=[], lock_0=(1, (1, "c"), True))


if __name__ == "__main__":
    unittest.main()
