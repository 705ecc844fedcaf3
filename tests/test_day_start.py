"""Points 4, 41 and 47: how a day begins, what of it is refused, and that it keeps copies."""

import unittest

from onestaff.days import Day
from onestaff.errors import Full, NoEnds, NoName, NoPlace, NoTrains, Twice
from onestaff.lines import Line
from tests.days import PLACES, STRETCHES, TRAINS, answers, everything, full_day, full_line
from tests.things import any_things, refused

NOTHING = (0, 0, None, None, 0, None)


class Begun(unittest.TestCase):
    def test_all_of_it(self):
        known = {f"known {name} {k}": (k,) + NOTHING for name in "abcd" for k in range(3)}
        self.assertEqual(answers(full_day()), {
            "where x": ("at", "a"), "where y": ("at", "a"), "where z": ("at", "c"),
            "at a": ["x", "y"], "at b": [], "at c": ["z"], "at d": [],
            "staff 0": ("at", "a"), "staff 1": ("at", "c"), "staff 2": ("at", "c"),
            "lock 0": (0, None, False), "lock 1": (0, None, False), "lock 2": (0, None, False),
            "pilot 0": None, "pilot 1": None, "pilot 2": None, "long 0": ("box", "a"), "words": [], **known,
        })

    def test_nothing_is_written_yet(self):
        day = full_day()
        self.assertEqual((day.done(), day.deeds()), (0, []))
        self.assertEqual([day.book(name) for name in "abcd"], [[]] * 4)

    def test_the_line_and_the_trains(self):
        day = full_day()
        self.assertIsInstance(day.line(), Line)
        self.assertEqual(day.line().told(), full_line().told())
        self.assertEqual(day.trains(), ["x", "y", "z"])

    def test_ends(self):
        day = full_day(ends=["b", "b", "d"])
        self.assertEqual([day.staff(k) for k in range(3)], [("at", "b"), ("at", "b"), ("at", "d")])
        self.assertEqual([full_day(ends=("a", "c", "c")).staff(k)[1] for k in range(3)], ["a", "c", "c"])

    def test_long_staffs_at_home(self):
        line = Line([(name, 1) for name in "abcdef"], [("staff", 0)] * 5, [(0, 2, 1), (2, 5, 0)])
        day = Day(line, [("x", "f")])
        self.assertEqual([day.long_staff(j) for j in (0, 1)], [("box", "c"), ("box", "c")])
        self.assertEqual(Day(line.mirrored(), [("x", "f")]).long_staff(1), ("box", "c"))

    def test_trains_in_their_order(self):
        day = full_day([("y", "b"), ("x", "c"), ("w", "b"), ("b", "b")])
        self.assertEqual(day.trains(), ["y", "x", "w", "b"])
        self.assertEqual(day.at("b"), ["y", "w", "b"])

    def test_lists_and_tuples_alike(self):
        self.assertEqual(everything(full_day(tuple(TRAINS), ("a", "c", "c"))), everything(full_day()))


class Copies(unittest.TestCase):
    def test_what_was_handed_in_is_changed_afterwards(self):
        trains, ends = list(TRAINS), ["b", "b", "d"]
        day = full_day(trains, ends)
        before = everything(day)
        trains.append(("w", "b"))
        trains[0] = ("x", "d")
        ends[0] = "a"
        ends.clear()
        self.assertEqual(everything(day), before)
        self.assertEqual(everything(day.twin()), before)
        trains.clear()
        self.assertEqual(everything(day.twin()), before)

    def test_what_is_handed_in_stays(self):
        trains, ends = list(TRAINS), ["b", "b", "d"]
        day = full_day(trains, ends)
        day.do(("lock", "b", 0, "a"))
        self.assertEqual((trains, ends), (TRAINS, ["b", "b", "d"]))


class RefusedTrains(unittest.TestCase):
    def refused(self, error, thing, trains, ends=None):
        refused(self, error, "found", thing, Day, full_line(), trains, ends)

    def test_no_list_of_one_to_four(self):
        for trains in any_things() + ["xa"]:
            if not (isinstance(trains, (list, tuple)) and 1 <= len(trains) <= 4):
                self.refused(NoTrains, trains, trains)
        many = [(name, "b") for name in "vwxyz"]
        self.refused(NoTrains, many, many)
        self.assertEqual(len(full_day([("v", "a"), ("w", "b"), ("x", "c"), ("y", "d")]).trains()), 4)

    def test_no_tuple_of_two(self):
        for train in any_things() + [["x", "a"], "xa", ("x",), ("x", "a", "a")]:
            if not (isinstance(train, tuple) and len(train) == 2):
                self.refused(NoTrains, train, [("x", "a"), train, None])

    def test_no_name(self):
        for name in any_things():
            self.refused(NoName, name, [("x", "a"), (name, "nowhere")])

    def test_twice(self):
        name = "".join(["x", "y"])
        self.refused(Twice, name, [("xy", "a"), ("z", "a"), (name, None)])

    def test_no_place(self):
        for place in any_things() + ["e", "x", 0, 1]:
            self.refused(NoPlace, place, [("x", "a"), ("y", place)])

    def test_full(self):
        self.refused(Full, "d", [("x", "d"), ("y", "d")])
        self.refused(Full, "a", [("x", "a"), ("y", "b"), ("z", "a"), ("w", "a")])
        self.assertEqual(full_day([(name, "b") for name in "xyz"]).at("b"), ["x", "y", "z"])
        self.refused(Full, "b", [(name, "b") for name in "wxyz"])

    def test_train_by_train(self):
        self.refused(Full, "d", [("x", "d"), ("y", "d"), None])
        self.refused(NoPlace, "e", [("x", "e"), ("X", "a")])
        self.refused(Twice, "x", [("x", "d"), ("x", "d")])
        self.refused(NoName, "X", [("X", "e"), None])
        self.refused(NoTrains, None, [("x", "d"), None, ("y", "d")])

    def test_trains_go_ahead_of_ends(self):
        self.refused(Full, "d", [("x", "d"), ("y", "d")], 7)
        self.refused(NoTrains, None, None, [])


class RefusedEnds(unittest.TestCase):
    def refused(self, ends):
        refused(self, NoEnds, "found", ends, Day, full_line(), TRAINS, ends)

    def test_no_ends(self):
        for ends in any_things() + ["abc", {"a": 1, "b": 1, "c": 1}, {0: "a", 1: "b", 2: "c"}]:
            if ends is not None:
                self.refused(ends)

    def test_another_number_of_places(self):
        for ends in ([], ["a"], ["a", "b"], ["a", "b", "c", "d"], ("a", "b", "c", "d")):
            self.refused(ends)

    def test_no_end_of_the_stretch(self):
        for ends in (["c", "b", "c"], ["a", "a", "c"], ["a", "d", "d"], ["a", "b", "b"], ["a", "b", "e"]):
            self.refused(ends)
        for k in range(3):
            for thing in any_things() + [k, k + 1, "ab", ("a", "b")]:
                ends = ["a", "b", "c"]
                ends[k] = thing
                self.refused(ends)

    def test_two_places(self):
        line = Line(PLACES[:2], STRETCHES[:1])
        self.assertEqual(Day(line, [("x", "a")], ["b"]).staff(0), ("at", "b"))
        refused(self, NoEnds, "found", "b", Day, line, [("x", "a")], "b")


if __name__ == "__main__":
    unittest.main()
