"""Points 44 to 46: a train comes, and the words of it: got, lost, said again."""

import unittest

from onestaff.days import Day
from onestaff.errors import Full, NotIn, NoWord, Silent
from onestaff.lines import Line
from tests.days import TAKE, DayCase, day_behind, deeds_in, full_day
from tests.things import any_things

ENDS = ["a", "b", "c"]
THREE = [("x", "b"), ("y", "b"), ("w", "b")]


class Comes(DayCase):
    def test_by_staff(self):
        day = day_behind("leave x b staff")
        self.done(day, "b", "come x", where_x=("at", "b"), at_b=["x"], staff_0=("at", "b"))
        self.assertEqual((day.inside(0), day.words()), ([], []))

    def test_by_ticket(self):
        day = day_behind("leave x b ticket")
        self.done(
            day, "b", "come x", where_x=("at", "b"), at_b=["x"], known_b_0=(0, 0, 0, 1, None, 0, None),
            words=[(0, ("b", "a", "through", 0, 1))],
        )
        self.assertEqual((day.staff(0), day.pending("a", 0)), (("at", "a"), 1))

    def test_by_ticket_to_the_lower_place(self):
        day = day_behind("leave x a ticket; come x; get 0; leave y a ticket", THREE, ["b", "c", "c"])
        self.done(
            day, "a", "come y", where_y=("at", "a"), at_a=["x", "y"], known_a_0=(0, 0, 0, 2, None, 0, None),
            words=[(1, ("a", "b", "through", 0, 2))],
        )

    def test_by_pilot(self):
        day = day_behind("lock a 0 a; pilot a 0; leave x b pilot")
        self.done(day, "b", "come x", where_x=("at", "b"), at_b=["x"], pilot_0=("at", "b"))

    def test_by_long_staff(self):
        day = day_behind(TAKE + "; leave x c long", ends=ENDS)
        self.done(day, "c", "come x", where_x=("at", "c"), at_c=["z", "x"], long_0=("at", "c"))
        self.assertEqual([day.inside(k) for k in range(3)], [[], [], []])

    def test_behind_those_that_stand_there(self):
        trains = [("z", "a"), ("y", "a"), ("x", "b"), ("w", "b")]
        day = day_behind("leave y b ticket", trains)
        self.done(
            day, "b", "come y", where_y=("at", "b"), at_b=["x", "w", "y"], known_b_0=(0, 0, 0, 1, None, 0, None),
            words=[(0, ("b", "a", "through", 0, 1))],
        )

    def test_a_staff_that_comes_tells_that_all_are_through(self):
        day = day_behind("leave x a ticket; walk x b; help y x; bring x a; leave y b staff", THREE, ["b", "c", "c"])
        self.assertEqual((day.pending("b", 0), day.known("b")[0][1:3]), (1, (1, 0)))
        self.done(
            day, "b", "come y", where_y=("at", "b"), at_b=["w", "y"], staff_0=("at", "b"),
            known_b_0=(0, 1, 1, None, None, 0, None),
        )

    def test_a_pilot_that_comes_does_not_tell_it(self):
        text = "leave x a ticket; walk x b; help y x; bring x a; lock a 0 b; get 1; pilot b 0"
        places = [("a", 3), ("b", 3)]
        day = Day(Line(places, [("ticket", 1)]), THREE)
        for deed in deeds_in(text + "; leave w a pilot; come w; leave w b pilot; come w"):
            day.do(deed)
        self.assertEqual((day.pilot(0), day.pending("b", 0)), (("at", "b"), 1))

    def test_in_the_order_of_words(self):
        day = day_behind("leave x b ticket; come x; again b through 0; leave z d ticket; come z")
        self.assertEqual(day.words(), [
            (0, ("b", "a", "through", 0, 1)), (1, ("b", "a", "through", 0, 1)), (2, ("d", "c", "through", 2, 1)),
        ])


class NotThere(DayCase):
    def test_not_in(self):
        self.refused(full_day(), NotIn, "x", "come x")
        self.refused(day_behind("leave x b staff; come x"), NotIn, "x", "come x")
        day = day_behind("leave x b staff; walk x a")
        self.refused(day, NotIn, "x", "come x")
        day.do(("help", "y", "x"))
        self.refused(day, NotIn, "x", "come x")
        self.refused(day, NotIn, "y", "come y")

    def test_full(self):
        day = day_behind("leave x b staff", [("x", "a"), ("u", "b"), ("v", "b"), ("w", "b")])
        self.refused(day, Full, "b", "come x")
        day = day_behind("leave z d ticket", [("z", "c"), ("y", "d")])
        self.refused(day, Full, "d", "come z")

    def test_a_road_is_free_again(self):
        day = day_behind("leave x c staff", [("x", "b"), ("y", "c"), ("z", "c")], ["a", "b", "c"])
        self.refused(day, Full, "c", "come x")
        day.do(("leave", "y", "d", "staff"))
        self.done(day, "c", "come x", where_x=("at", "c"), at_c=["z", "x"], staff_1=("at", "c"))

    def test_those_in_a_stretch_take_up_no_road(self):
        day = day_behind("leave z d ticket", [("x", "b"), ("y", "c"), ("z", "c")], ["a", "b", "c"])
        day.do(("leave", "x", "c", "staff"))
        self.done(day, "c", "come x", where_x=("at", "c"), at_c=["y", "x"], staff_1=("at", "c"))


class Words(DayCase):
    def test_through_is_got(self):
        day = day_behind("leave x b ticket; come x")
        self.done(day, "a", "get 0", words=[], known_a_0=(0, 1, 1, None, None, 0, None))
        self.assertEqual(day.pending("a", 0), None)

    def test_through_is_got_late_and_tells_nothing_new(self):
        day = day_behind("leave x b ticket; come x; again b through 0; get 1")
        self.done(day, "a", "get 0", words=[])
        text = "leave x a ticket; come x; again a through 0; get 0; leave y a ticket; come y; get 2"
        day = day_behind(text, THREE, ["b", "c", "c"])
        self.done(day, "b", "get 1", words=[])
        self.assertEqual(day.known("b")[0][1:3], (2, 2))

    def test_through_of_one_stretch_tells_of_that_one_alone(self):
        trains = [("x", "b"), ("z", "c")]
        day = day_behind("leave x a ticket; come x; leave z d ticket; come z", trains, ["b", "b", "c"])
        self.done(day, "c", "get 1", words=[(0, ("a", "b", "through", 0, 1))], known_c_2=(2, 1, 1, None, None, 0, None))
        self.done(day, "b", "get 0", words=[], known_b_0=(0, 1, 1, None, None, 0, None))

    def test_lost(self):
        day = day_behind("leave x b ticket; come x")
        before = day.told()
        self.assertIsNone(day.do(("lose", 0)))
        after = day.told()
        self.assertEqual(after[:6] + after[7:], before[:6] + before[7:])
        self.assertEqual((day.words(), day.told()[7]), ([], 1))

    def test_no_word_under_way(self):
        for thing in any_things() + [0, "0"]:
            self.refused_thing(full_day(), NoWord, thing, ("get", thing))
            self.refused_thing(full_day(), NoWord, thing, ("lose", thing))
        day = day_behind("leave x b ticket; come x; again b through 0; get 0; lose 1")
        for number in (0, 1, 2):
            self.refused(day, NoWord, number, f"get {number}; lose {number}")


class Again(DayCase):
    def test_through(self):
        day = day_behind("leave x b ticket; come x; lose 0")
        self.done(day, "b", "again b through 0", words=[(1, ("b", "a", "through", 0, 1))])
        self.done(day, "b", "again b through 0", words=[(n, ("b", "a", "through", 0, 1)) for n in (1, 2)])
        self.done(day, "a", "get 2", words=[(1, ("b", "a", "through", 0, 1))], known_a_0=(0, 1, 1, None, None, 0, None))
        self.done(day, "b", "again b through 0", words=[(n, ("b", "a", "through", 0, 1)) for n in (1, 3)])

    def test_through_of_the_last_train(self):
        text = "leave x a ticket; come x; get 0; leave y a ticket; come y; get 1; leave w a ticket"
        day = day_behind(text, THREE, ["b", "c", "c"])
        self.done(day, "a", "again a through 0", words=[(2, ("a", "b", "through", 0, 2))])

    def test_through_in_either_direction(self):
        text = "leave x a ticket; come x; lose 0; again a through 0; get 1; leave y a staff; come y; leave y b ticket"
        day = day_behind(text + "; come y", THREE, ["b", "c", "c"])
        told = [(2, ("b", "a", "through", 0, 1)), (3, ("a", "b", "through", 0, 1))]
        self.done(day, "a", "again a through 0", words=told)
        self.done(day, "b", "again b through 0", words=told + [(4, ("b", "a", "through", 0, 1))])

    def test_nothing_to_say(self):
        for place in "abcd":
            for kind in ("through", "lock", "open"):
                for k in range(3):
                    self.refused(full_day(), Silent, (kind, k), f"again {place} {kind} {k}")

    def test_through_where_no_ticket_train_came(self):
        day = day_behind("leave x b ticket; leave z b staff; come z")
        self.refused(day, Silent, ("through", 0), "again b through 0; again a through 0")
        self.refused(day, Silent, ("through", 1), "again b through 1; again c through 1")
        day.do(("come", "x"))
        self.refused(day, Silent, ("through", 0), "again a through 0; again c through 0; again d through 0")
        self.refused(day, Silent, ("through", 1), "again b through 1")
        self.refused(day, Silent, ("lock", 0), "again a lock 0; again b lock 0")
        self.refused(day, Silent, ("open", 0), "again a open 0; again b open 0")


if __name__ == "__main__":
    unittest.main()
