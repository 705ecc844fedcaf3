"""Point 43: a train leaves by a thing."""

import unittest

from onestaff.errors import Boxed, Held, Lacks, NotClear, NotHere, NoTickets, NoWay, Shut
from tests.days import TAKE, DayCase, day_behind, full_day

ENDS = ["a", "b", "c"]
THREE = [("x", "b"), ("y", "b"), ("w", "b")]
PILOT = "lock a 0 b; get 0; pilot b 0"


class Leaves(DayCase):
    def test_by_staff(self):
        day = full_day()
        self.done(day, "a", "leave x b staff", where_x=("in", "a", "b", "staff"), at_a=["y"], staff_0=("with", "x"))
        self.assertEqual((day.inside(0), day.inside(1)), (["x"], []))

    def test_by_staff_to_the_lower_place(self):
        day = full_day()
        self.done(day, "c", "leave z b staff", where_z=("in", "c", "b", "staff"), at_c=[], staff_1=("with", "z"))
        self.assertEqual((day.inside(0), day.inside(1), day.inside(2)), ([], ["z"], []))

    def test_by_ticket(self):
        day = full_day()
        self.done(
            day, "a", "leave y b ticket", where_y=("in", "a", "b", "ticket"), at_a=["x"],
            known_a_0=(0, 1, 0, None, None, 0, None),
        )
        self.assertEqual((day.staff(0), day.pending("a", 0), day.inside(0)), (("at", "a"), 1, ["y"]))

    def test_the_next_ticket_has_the_next_number(self):
        day = day_behind("leave x b ticket; come x; get 0")
        self.done(
            day, "a", "leave y b ticket", where_y=("in", "a", "b", "ticket"), at_a=[],
            known_a_0=(0, 2, 1, None, None, 0, None),
        )

    def test_by_pilot(self):
        day = day_behind(PILOT, [("x", "b")])
        self.done(day, "b", "leave x a pilot", where_x=("in", "b", "a", "pilot"), at_b=[], pilot_0=("with", "x"))
        self.assertEqual((day.staff(0), day.inside(0)), (("locked", "a", "b"), ["x"]))

    def test_by_pilot_at_the_end_where_the_staff_is_locked(self):
        day = day_behind("lock a 0 a; pilot a 0")
        self.done(day, "a", "leave x b pilot", where_x=("in", "a", "b", "pilot"), at_a=["y"], pilot_0=("with", "x"))

    def test_by_long_staff(self):
        day = day_behind(TAKE, ends=ENDS)
        self.done(day, "a", "leave x c long", where_x=("in", "a", "c", "long"), at_a=["y"], long_0=("with", "x"))
        self.assertEqual([day.inside(k) for k in range(3)], [["x"], ["x"], []])

    def test_by_long_staff_back(self):
        day = day_behind(TAKE + "; leave x c long; come x", ends=ENDS)
        self.done(day, "c", "leave z a long", where_z=("in", "c", "a", "long"), at_c=["x"], long_0=("with", "z"))
        self.assertEqual([day.inside(k) for k in range(3)], [["z"], ["z"], []])

    def test_the_order_of_those_that_stay(self):
        day = full_day([("w", "b"), ("x", "b"), ("y", "b")], ["b", "b", "c"])
        self.done(
            day, "b", "leave x a staff", where_x=("in", "b", "a", "staff"), at_b=["w", "y"], staff_0=("with", "x"),
        )

    def test_a_pilot_asks_no_count(self):
        text = "leave x a ticket; walk x b; help y x; bring x a; lock a 0 b; get 1; pilot b 0"
        day = day_behind(text, THREE, ["b", "c", "c"])
        self.assertEqual(day.pending("b", 0), 1)
        self.done(day, "b", "leave w a pilot", where_w=("in", "b", "a", "pilot"), at_b=[], pilot_0=("with", "w"))

    def test_a_staff_that_comes_back_is_clear(self):
        day = day_behind("leave x b ticket; walk x a; help y x; bring x b; leave y a staff; come y")
        self.assertEqual(day.pending("a", 0), None)
        self.done(day, "a", "leave y b staff", where_y=("in", "a", "b", "staff"), at_a=[], staff_0=("with", "y"))


class NowHere(DayCase):
    def test_trains_that_stand_at_no_place(self):
        day = day_behind("leave x b staff")
        self.refused(day, NotHere, "x", "leave x b staff; leave x a ticket; leave x d long")
        self.refused(day_behind("leave x b ticket; walk x a"), NotHere, "x", "leave x b staff; leave x b ticket")
        day = day_behind("leave x b ticket; walk x a; help y x")
        self.refused(day, NotHere, "x", "leave x b staff")
        self.refused(day, NotHere, "y", "leave y b staff; leave y a ticket; leave y d pilot")

    def test_ahead_of_no_way(self):
        self.refused(day_behind("leave x b staff"), NotHere, "x", "leave x d staff")


class NoWays(DayCase):
    def test_no_neighbours(self):
        for thing in ("staff", "ticket", "pilot"):
            self.refused(full_day(), NoWay, ("a", "c"), f"leave x c {thing}")
            self.refused(full_day(), NoWay, ("a", "d"), f"leave y d {thing}")
            self.refused(full_day(), NoWay, ("a", "a"), f"leave x a {thing}")
            self.refused(full_day(), NoWay, ("c", "a"), f"leave z a {thing}")

    def test_no_ends_of_a_long_one(self):
        day = day_behind(TAKE, ends=ENDS)
        for to in "abd":
            self.refused(day, NoWay, ("a", to), f"leave x {to} long")
            self.refused(day, NoWay, ("c", to), *([f"leave z {to} long"] if to != "a" else []))
        self.refused(day, Lacks, "long", "leave z a long")

    def test_ahead_of_tickets_and_things(self):
        self.refused(full_day([("x", "b")]), NoWay, ("b", "d"), "leave x d ticket; leave x d staff; leave x d long")


class NoSuchTickets(DayCase):
    def test_of_the_kind_staff(self):
        self.refused(full_day(), NoTickets, 1, "leave z b ticket")
        self.refused(full_day([("x", "b")], ["a", "b", "c"]), NoTickets, 1, "leave x c ticket")

    def test_ahead_of_lacks(self):
        self.refused(full_day([("x", "b")]), NoTickets, 1, "leave x c ticket")
        self.refused(day_behind("lock c 1 b"), NoTickets, 1, "leave z b ticket")


class NothingThere(DayCase):
    def test_staff_at_the_other_end(self):
        day = full_day(ends=["b", "b", "d"])
        for thing in ("staff", "ticket"):
            self.refused(day, Lacks, thing, f"leave x b {thing}", f"leave z d {thing}")

    def test_staff_on_its_way(self):
        day = day_behind("leave x b staff")
        self.refused(day, Lacks, "staff", "leave y b staff")
        self.refused(day, Lacks, "ticket", "leave y b ticket")
        day.do(("come", "x"))
        self.refused(day, Lacks, "staff", "leave y b staff")

    def test_a_train_that_is_called_like_the_place(self):
        day = day_behind("leave a b staff", [("a", "a"), ("y", "a"), ("b", "b")])
        self.refused(day, Lacks, "staff", "leave y b staff; leave b a staff; lock a 0 b; lock b 0 a; unlock a 0")
        self.refused(day, Lacks, "ticket", "leave y b ticket")

    def test_another_staff_lies_there(self):
        self.refused(full_day([("x", "b")], ["a", "b", "c"]), Lacks, "staff", "leave x a staff")

    def test_no_pilot(self):
        self.refused(full_day(), Lacks, "pilot", "leave x b pilot; leave z b pilot; leave z d pilot")
        self.refused(day_behind("lock a 0 b; get 0"), Lacks, "pilot", "leave x b pilot")
        self.refused(day_behind("lock a 0 b; get 0; pilot b 0"), Lacks, "pilot", "leave x b pilot")
        day = day_behind("lock a 0 b; get 0; pilot b 0; leave w a pilot", [("w", "b"), ("x", "b"), ("y", "a")])
        self.refused(day, Lacks, "pilot", "leave x a pilot; leave y b pilot")
        day = day_behind("lock a 0 a; pilot a 0; unlock a 0")
        self.refused(day, Lacks, "pilot", "leave x b pilot")

    def test_no_long_staff(self):
        self.refused(full_day(), Lacks, "long", "leave z a long")
        day = day_behind(TAKE + "; leave x c long", ends=ENDS)
        self.refused(day, Lacks, "long", "leave y c long; leave z a long")

    def test_ahead_of_shut_held_and_not_clear(self):
        self.refused(day_behind("lock a 0 b", [("x", "b")]), Lacks, "staff", "leave x a staff")
        self.refused(day_behind("leave x b staff; walk x b"), Lacks, "staff", "leave y b staff")
        day = day_behind("leave x a ticket; walk x b; help y x; bring x a", THREE, ["b", "c", "c"])
        self.assertEqual(day.pending("b", 0), 1)
        self.refused(day, Lacks, "ticket", "leave w a ticket")
        self.refused(day, Lacks, "staff", "leave w a staff; lock b 0 a")


class InItsBox(DayCase):
    def test_boxed(self):
        self.refused(full_day(), Boxed, 0, "leave x c long; leave y c long")
        self.refused(day_behind(TAKE + "; box a 0", ends=ENDS), Boxed, 0, "leave x c long")


class Locked(DayCase):
    def test_shut(self):
        for to in "abc":
            day = day_behind(f"lock a 0 {to}")
            self.refused(day, Shut, 0, "leave x b staff; leave y b ticket")
        self.refused(day_behind("lock c 1 b"), Shut, 1, "leave z b staff")
        self.refused(day_behind("lock a 0 b; get 0; give b 0; get 1"), Shut, 0, "leave x b staff; leave x b ticket")

    def test_unlocked_again(self):
        day = day_behind("lock a 0 b; get 0; give b 0; get 1; unlock a 0")
        self.done(day, "a", "leave x b staff", where_x=("in", "a", "b", "staff"), at_a=["y"], staff_0=("with", "x"))


class ForAnother(DayCase):
    def test_held_staff(self):
        day = day_behind("leave x b staff; walk x a")
        self.refused(day, Held, "x", "leave y b staff; leave y b ticket")
        day = day_behind("leave z b staff; walk z b", [("z", "c"), ("x", "b")])
        self.refused(day, Held, "z", "leave x c staff")

    def test_a_ticket_held_goes_ahead_of_not_clear(self):
        day = day_behind("leave x b ticket; walk x a")
        self.assertEqual(day.pending("a", 0), 1)
        self.refused(day, Held, "x", "leave y b staff; leave y b ticket")

    def test_held_pilot(self):
        day = day_behind("lock a 0 a; pilot a 0; leave x b pilot; walk x a")
        self.refused(day, Held, "x", "leave y b pilot")
        day = day_behind("lock a 0 a; pilot a 0; leave x b pilot; walk x b", [("x", "a"), ("w", "b")])
        self.refused(day, Held, "x", "leave w a pilot")

    def test_held_long_staff(self):
        for place, text in (("a", "leave y c long"), ("c", "leave z a long")):
            day = day_behind(f"{TAKE}; leave x c long; walk x {place}", ends=ENDS)
            self.refused(day, Held, "x", text)


class NotAllThrough(DayCase):
    def test_in_the_stretch(self):
        self.refused(day_behind("leave x b ticket"), NotClear, 1, "leave y b staff; leave y b ticket")

    def test_come_but_not_told(self):
        day = day_behind("leave x b ticket; come x")
        self.refused(day, NotClear, 1, "leave y b staff; leave y b ticket")
        day.do(("lose", 0))
        self.refused(day, NotClear, 1, "leave y b staff; leave y b ticket")
        day.do(("again", "b", "through", 0))
        self.refused(day, NotClear, 1, "leave y b staff; leave y b ticket")
        day.do(("get", 1))
        self.done(day, "a", "leave y b staff", where_y=("in", "a", "b", "staff"), at_a=[], staff_0=("with", "y"))

    def test_an_elder_number_is_not_enough(self):
        text = "leave x a ticket; come x; again a through 0; get 0; leave y a ticket; come y"
        day = day_behind(text, THREE, ["b", "c", "c"])
        self.refused(day, NotClear, 2, "leave w a ticket")
        day.do(("get", 1))
        self.refused(day, NotClear, 2, "leave w a staff; leave w a ticket; lock b 0 a")
        day.do(("get", 2))
        self.assertEqual(day.do(("leave", "w", "a", "ticket")), 9)

    def test_the_other_places_count_plays_no_part(self):
        day = day_behind("leave x b ticket; come x; get 0; leave y b staff; come y")
        self.done(day, "b", "leave x a ticket", where_x=("in", "b", "a", "ticket"), at_b=["y"],
                  known_b_0=(0, 1, 0, 1, None, 0, None))


if __name__ == "__main__":
    unittest.main()
