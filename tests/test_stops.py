"""Points 61 to 64: a train stops, and is helped."""

import unittest

from onestaff.days import Day
from onestaff.errors import Full, Lacks, NotHeld, NotHelped, NotHere, NotIn, NoWay
from onestaff.lines import Line
from tests.days import TAKE, DayCase, day_behind, full_day

ENDS = ["a", "b", "c"]
TWO = [("x", "a"), ("y", "a"), ("w", "b"), ("v", "d")]
BY_LONG = TAKE + "; leave x c long"
BY_PILOT = "lock a 0 a; pilot a 0; leave x b pilot"


class Stops(DayCase):
    def test_a_staff_to_either_end(self):
        for place in "ab":
            day = day_behind("leave x b staff")
            self.done(
                day, place, f"walk x {place}", where_x=("stopped", "a", "b", "staff"), staff_0=("held", place, "x"),
            )
            self.assertEqual((day.inside(0), day.at(place).count("x")), (["x"], 0))

    def test_a_ticket_to_the_place_that_it_left(self):
        day = day_behind("leave x b ticket")
        self.done(day, "a", "walk x a", where_x=("stopped", "a", "b", "ticket"), staff_0=("held", "a", "x"))
        self.assertEqual((day.pending("a", 0), day.words(), day.inside(0)), (1, [], ["x"]))

    def test_a_pilot_to_either_end(self):
        for place in "ab":
            day = day_behind(BY_PILOT)
            self.done(
                day, place, f"walk x {place}", where_x=("stopped", "a", "b", "pilot"), pilot_0=("held", place, "x"),
            )
            self.assertEqual(day.staff(0), ("locked", "a", "a"))

    def test_a_long_staff_to_either_end(self):
        for place in "ac":
            day = day_behind(BY_LONG, ends=ENDS)
            self.done(
                day, place, f"walk x {place}", where_x=("stopped", "a", "c", "long"), long_0=("held", place, "x"),
            )
            self.assertEqual([day.inside(k) for k in range(3)], [["x"], ["x"], []])

    def test_no_count_is_told_anything(self):
        text = "leave x a ticket; walk x b; help y x; bring x a; leave y b staff"
        day = day_behind(text, [("x", "b"), ("y", "b")], ["b", "c", "c"])
        self.assertEqual(day.pending("b", 0), 1)
        self.done(day, "b", "walk y b", where_y=("stopped", "a", "b", "staff"), staff_0=("held", "b", "y"))
        self.assertEqual(day.pending("b", 0), 1)

    def test_not_in(self):
        self.refused(full_day(), NotIn, "x", "walk x a; walk x b; walk x d")
        day = day_behind("leave x b staff; walk x a")
        self.refused(day, NotIn, "x", "walk x a; walk x b; walk x d")
        day.do(("help", "y", "x"))
        self.refused(day, NotIn, "x", "walk x a")
        self.refused(day, NotIn, "y", "walk y a; walk y b")

    def test_no_end_of_the_stretch(self):
        day = day_behind("leave x b staff")
        self.refused(day, NoWay, ("x", "c"), "walk x c")
        self.refused(day, NoWay, ("x", "d"), "walk x d")
        day = day_behind(BY_LONG, ends=ENDS)
        self.refused(day, NoWay, ("x", "b"), "walk x b")
        self.refused(day, NoWay, ("x", "d"), "walk x d")

    def test_by_a_ticket_not_the_place_that_it_left(self):
        day = day_behind("leave x b ticket; leave z d ticket")
        for train, places in (("x", "bcd"), ("z", "abd")):
            for place in places:
                self.refused(day, NoWay, (train, place), f"walk {train} {place}")
        self.done(day, "c", "walk z c", where_z=("stopped", "c", "d", "ticket"), staff_2=("held", "c", "z"))

    def test_a_train_that_is_called_like_a_place(self):
        day = day_behind("leave b b staff", [("b", "a"), ("x", "c")])
        self.refused(day, NoWay, ("b", "c"), "walk b c")
        self.done(day, "a", "walk b a", where_b=("stopped", "a", "b", "staff"), staff_0=("held", "a", "b"))


class Helps(DayCase):
    def test_by_staff_from_either_end(self):
        day = day_behind("leave x b staff; walk x a", TWO)
        self.done(
            day, "a", "help y x", where_y=("helping", "a", "x"), where_x=("helped", "a", "b", "staff", "y"),
            at_a=[], staff_0=("with", "x"),
        )
        self.assertEqual(day.inside(0), ["x", "y"])
        day = day_behind("leave x b staff; walk x b", TWO)
        self.done(
            day, "b", "help w x", where_w=("helping", "b", "x"), where_x=("helped", "a", "b", "staff", "w"),
            at_b=[], staff_0=("with", "x"),
        )

    def test_by_the_staff_of_a_ticket(self):
        day = day_behind("leave y b ticket; walk y a", TWO)
        self.done(
            day, "a", "help x y", where_x=("helping", "a", "y"), where_y=("helped", "a", "b", "ticket", "x"),
            at_a=[], staff_0=("with", "y"),
        )
        self.assertEqual((day.inside(0), day.pending("a", 0)), (["x", "y"], 1))

    def test_by_pilot(self):
        day = day_behind(BY_PILOT + "; walk x b", TWO)
        self.done(
            day, "b", "help w x", where_w=("helping", "b", "x"), where_x=("helped", "a", "b", "pilot", "w"),
            at_b=[], pilot_0=("with", "x"),
        )

    def test_by_long_staff(self):
        day = day_behind(BY_LONG + "; walk x c", ends=ENDS)
        self.done(
            day, "c", "help z x", where_z=("helping", "c", "x"), where_x=("helped", "a", "c", "long", "z"),
            at_c=[], long_0=("with", "x"),
        )
        self.assertEqual([day.inside(k) for k in range(3)], [["x", "z"], ["x", "z"], []])

    def test_not_here(self):
        day = day_behind("leave x b staff; walk x a; leave z d staff")
        self.refused(day, NotHere, "z", "help z x; help z y; help z z")
        self.refused(day, NotHere, "x", "help x x; help x y")
        day.do(("help", "y", "x"))
        self.refused(day, NotHere, "y", "help y x")
        self.refused(day, NotHere, "x", "help x y")

    def test_not_held(self):
        self.refused(full_day(), NotHeld, "y", "help x y; help y y; help z y")
        self.refused(day_behind("leave x b staff"), NotHeld, "x", "help y x")
        self.refused(day_behind("leave x b ticket"), NotHeld, "x", "help y x")
        day = day_behind("leave x b staff; walk x b", TWO)
        self.refused(day, NotHeld, "x", "help y x; help v x")
        self.refused(day, NotHeld, "y", "help w y")
        self.refused(day, NotHeld, "w", "help w w")
        day = day_behind("leave x b staff; walk x a; help y x", TWO)
        self.refused(day, NotHeld, "x", "help w x")
        self.refused(day, NotHeld, "y", "help w y")
        day = day_behind("leave x b ticket; walk x a", TWO)
        self.refused(day, NotHeld, "x", "help w x")

    def test_held_for_another_train(self):
        line = Line([("a", 2), ("b", 3), ("c", 2)], [("staff", 0), ("staff", 1)])
        day = Day(line, [("x", "a"), ("z", "c"), ("w", "b"), ("v", "b")])
        for row in "leave x b staff; leave z b staff; walk x b; walk z c".split("; "):
            day.do(tuple(row.split()))
        self.refused(day, NotHeld, "z", "help w z; help v z")
        self.done(
            day, "b", "help v x", where_v=("helping", "b", "x"), where_x=("helped", "a", "b", "staff", "v"),
            at_b=["w"], staff_0=("with", "x"),
        )


class Brings(DayCase):
    def test_by_staff_to_either_end(self):
        day = day_behind("leave x b staff; walk x a; help y x", TWO)
        twin = day.twin()
        self.done(
            day, "b", "bring x b", where_x=("at", "b"), where_y=("at", "b"), at_b=["w", "x", "y"], staff_0=("at", "b"),
        )
        self.assertEqual((day.inside(0), day.words()), ([], []))
        self.done(
            twin, "a", "bring x a", where_x=("at", "a"), where_y=("at", "a"), at_a=["x", "y"], staff_0=("at", "a"),
        )

    def test_the_train_ahead_of_its_helper(self):
        day = day_behind("leave y b staff; walk y a; help x y", [("x", "a"), ("y", "a"), ("w", "b")])
        self.done(
            day, "b", "bring y b", where_x=("at", "b"), where_y=("at", "b"), at_b=["w", "y", "x"], staff_0=("at", "b"),
        )

    def test_a_ticket_at_the_other_end(self):
        day = day_behind("leave x b ticket; walk x a; help y x", TWO)
        self.done(
            day, "b", "bring x b", where_x=("at", "b"), where_y=("at", "b"), at_b=["w", "x", "y"], staff_0=("at", "b"),
            known_b_0=(0, 0, 0, 1, None, 0, None), words=[(0, ("b", "a", "through", 0, 1))],
        )
        self.assertEqual(day.pending("a", 0), 1)
        twin = day.twin()
        self.done(day, "a", "get 0", words=[], known_a_0=(0, 1, 1, None, None, 0, None))
        twin.do(("lose", 0))
        self.done(twin, "b", "again b through 0", words=[(1, ("b", "a", "through", 0, 1))])

    def test_a_ticket_at_the_place_that_it_left(self):
        day = day_behind("leave x b ticket; walk x a; help y x", TWO)
        self.done(
            day, "a", "bring x a", where_x=("at", "a"), where_y=("at", "a"), at_a=["x", "y"], staff_0=("at", "a"),
            known_a_0=(0, 1, 1, None, None, 0, None),
        )
        self.assertEqual(day.words(), [])
        self.done(day, "a", "leave y b ticket", where_y=("in", "a", "b", "ticket"), at_a=["x"],
                  known_a_0=(0, 2, 1, None, None, 0, None))

    def test_a_ticket_with_a_later_number(self):
        text = "leave x a ticket; come x; get 0; leave y a ticket; walk y b; help w y"
        day = day_behind(text, [("x", "b"), ("y", "b"), ("w", "b")], ["b", "c", "c"])
        twin = day.twin()
        self.done(
            twin, "b", "bring y b", where_y=("at", "b"), where_w=("at", "b"), at_b=["y", "w"], staff_0=("at", "b"),
            known_b_0=(0, 2, 2, None, None, 0, None),
        )
        self.refused(day, Full, "a", "bring y a")

    def test_the_staff_tells_the_other_ends_count_too(self):
        places, trains = [("a", 3), ("b", 3)], [("x", "b"), ("y", "b"), ("w", "b")]
        text = "leave x a ticket; walk x b; help y x; bring x a; leave x b ticket; walk x a; help y x"
        day = Day(Line(places, [("ticket", 1)]), trains)
        for row in text.split("; "):
            day.do(tuple(row.split()))
        self.assertEqual((day.pending("a", 0), day.pending("b", 0)), (1, 1))
        self.done(
            day, "b", "bring x b", where_x=("at", "b"), where_y=("at", "b"), at_b=["w", "x", "y"], staff_0=("at", "b"),
            known_b_0=(0, 1, 1, 1, None, 0, None),
            words=[(0, ("a", "b", "through", 0, 1)), (1, ("b", "a", "through", 0, 1))],
        )
        self.assertEqual(day.pending("a", 0), 1)

    def test_a_staff_that_comes_with_them_tells_that_all_are_through(self):
        text = "leave x a ticket; walk x b; help y x; bring x a; leave y b staff; walk y a; help x y"
        day = day_behind(text, [("x", "b"), ("y", "b"), ("w", "c")], ["b", "c", "c"])
        self.done(
            day, "b", "bring y b", where_x=("at", "b"), where_y=("at", "b"), at_b=["y", "x"], staff_0=("at", "b"),
            known_b_0=(0, 1, 1, None, None, 0, None),
        )

    def test_by_pilot_to_either_end(self):
        day = day_behind(BY_PILOT + "; walk x a; help y x", TWO)
        twin = day.twin()
        self.done(
            day, "b", "bring x b", where_x=("at", "b"), where_y=("at", "b"), at_b=["w", "x", "y"], pilot_0=("at", "b"),
        )
        self.done(
            twin, "a", "bring x a", where_x=("at", "a"), where_y=("at", "a"), at_a=["x", "y"], pilot_0=("at", "a"),
        )
        self.done(twin, "a", "unlock a 0", staff_0=("at", "a"), pilot_0=None, lock_0=(1, None, False))

    def test_by_long_staff_to_either_end(self):
        day = day_behind(BY_LONG + "; walk x c; help z x", ends=ENDS)
        twin = day.twin()
        self.done(
            day, "c", "bring x c", where_x=("at", "c"), where_z=("at", "c"), at_c=["x", "z"], long_0=("at", "c"),
        )
        day.do(("box", "c", 0))
        self.refused(twin, Full, "a", "bring x a")
        twin = day_behind(BY_LONG + "; walk x a; help y x", ends=ENDS)
        self.done(
            twin, "a", "bring x a", where_x=("at", "a"), where_y=("at", "a"), at_a=["x", "y"], long_0=("at", "a"),
        )

    def test_not_helped(self):
        self.refused(full_day(), NotHelped, "x", "bring x a; bring x b; bring x d")
        self.refused(day_behind("leave x b staff"), NotHelped, "x", "bring x a; bring x b")
        self.refused(day_behind("leave x b staff; walk x a"), NotHelped, "x", "bring x a; bring x d")
        day = day_behind("leave x b staff; walk x a; help y x")
        self.refused(day, NotHelped, "y", "bring y a; bring y b; bring y d")
        day.do(("bring", "x", "b"))
        self.refused(day, NotHelped, "x", "bring x b")

    def test_no_end_of_the_stretch(self):
        day = day_behind("leave x b staff; walk x a; help y x")
        for place in "cd":
            self.refused(day, NoWay, ("x", place), f"bring x {place}")
        day = day_behind(BY_LONG + "; walk x c; help z x", ends=ENDS)
        for place in "bd":
            self.refused(day, NoWay, ("x", place), f"bring x {place}")

    def test_no_end_goes_ahead_of_full(self):
        self.refused(day_behind("leave x b staff; walk x a; help y x"), NoWay, ("x", "d"), "bring x d")

    def test_fewer_than_two_roads(self):
        text = "leave x b staff; walk x a; help y x"
        self.refused(day_behind(text, TWO[:2] + [("v", "b"), ("w", "b")]), Full, "b", "bring x b")
        line = Line([("a", 2), ("b", 1)], [("staff", 0)])
        day = Day(line, [("x", "a"), ("y", "a")])
        for row in text.split("; "):
            day.do(tuple(row.split()))
        self.refused(day, Full, "b", "bring x b")
        self.done(day, "a", "bring x a", where_x=("at", "a"), where_y=("at", "a"), at_a=["x", "y"], staff_0=("at", "a"))

    def test_both_roads_are_needed(self):
        line = Line([("a", 2), ("b", 2)], [("staff", 0)])
        day = Day(line, [("x", "a"), ("y", "a"), ("w", "b")])
        for deed in [("leave", "x", "b", "staff"), ("walk", "x", "b"), ("help", "w", "x")]:
            day.do(deed)
        self.refused(day, Full, "a", "bring x a")
        self.done(day, "b", "bring x b", where_x=("at", "b"), where_w=("at", "b"), at_b=["x", "w"], staff_0=("at", "b"))


class Names(DayCase):
    """Places and trains may be called like the words of spots and things."""

    def setUp(self):
        line = Line([("in", 1), ("at", 3), ("with", 3), ("helped", 2)], [("ticket", 0)] * 3, [(0, 2, 0)])
        self.day = Day(line, [("at", "at"), ("with", "at"), ("held", "with")])

    def test_on_its_way(self):
        self.day.do(("leave", "at", "with", "staff"))
        for place in ("in", "helped"):
            self.refused(self.day, NoWay, ("at", place), f"walk at {place}")
        self.done(self.day, "at", "walk at at", where_at=("stopped", "at", "with", "staff"), staff_1=("held", "at", "at"))

    def test_helped(self):
        for deed in [("leave", "at", "with", "ticket"), ("walk", "at", "at"), ("help", "with", "at")]:
            self.day.do(deed)
        self.assertEqual(self.day.inside(1), ["at", "with"])
        self.refused(self.day, NotHelped, "with", "bring with with")
        for place in ("in", "helped"):
            self.refused(self.day, NoWay, ("at", place), f"bring at {place}")
        self.day.do(("bring", "at", "with"))
        self.assertEqual(self.day.at("with"), ["held", "at", "with"])

    def test_what_lies_nowhere(self):
        self.day.do(("leave", "with", "with", "staff"))
        self.refused(self.day, Lacks, "staff", "leave at with staff; leave held at staff; lock with 1 at; lock at 1 with")
        self.refused(self.day, NotHeld, "with", "help at with; help held with")


class Stays(DayCase):
    def test_a_train_that_nobody_helps(self):
        day = day_behind("leave x b staff; walk x b")
        self.assertEqual([deed for deed in day.may() if "x" in deed], [])
        self.assertEqual(day.where("x"), ("stopped", "a", "b", "staff"))

    def test_a_helped_train_goes_on_by_itself_behind(self):
        day = day_behind("leave x b staff; walk x a; help y x; bring x b; leave x a staff; come x", TWO)
        self.assertEqual((day.where("x"), day.where("y"), day.staff(0)), (("at", "a"), ("at", "b"), ("at", "a")))

    def test_helped_again(self):
        text = "leave x b staff; walk x a; help y x; bring x b; leave x a staff; walk x b; help w x; bring x a"
        day = day_behind(text, TWO)
        self.assertEqual((day.at("a"), day.at("b"), day.staff(0)), (["x", "w"], ["y"], ("at", "a")))


if __name__ == "__main__":
    unittest.main()
