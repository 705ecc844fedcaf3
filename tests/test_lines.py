"""Points 4, 5, 12 and 13: what lines are made of, refuse and tell."""

import unittest
from itertools import product

from onestaff.errors import NoLong, NoLongs, NoName, NoNumber, NoPlace, NoPlaces
from onestaff.errors import NoStretch, NoStretches, Twice
from onestaff.lines import Line
from tests.things import BIG, any_things, refused

PLACES = [("ab", 1), ("c", 2), ("def", 3), ("g", 1), ("h", 2)]
STRETCHES = [("staff", 0), ("ticket", 1), ("ticket", 0), ("staff", 1)]
LONGS = [(0, 2, 1), (2, 4, 0)]
BROKEN = [("a", 1), ("A", 1)]


def full_line():
    return Line(PLACES, STRETCHES, LONGS)


def short_line(longs=None):
    return Line([("a", 1), ("b", 1), ("c", 1)], [("staff", 0), ("ticket", 1)], longs)


def all_told(line):
    """Every answer of the line, so that two lines, or one at two times, can be compared."""
    names = line.names()
    stretches = range(line.many_stretches())
    longs = range(line.many_longs())
    return [
        names, line.told(), line.many_stretches(), line.many_longs(),
        [(line.roads(name), line.number_of(name)) for name in names],
        [(line.ends(k), line.kind(k), line.home(k), line.long_of(k)) for k in stretches],
        [(line.long_ends(j), line.long_stretches(j), line.long_home(j)) for j in longs],
        [(line.between(a, b), line.long_between(a, b)) for a, b in product(names, names)],
    ]


class Told(unittest.TestCase):
    def test_places(self):
        line = full_line()
        self.assertEqual(line.names(), ["ab", "c", "def", "g", "h"])
        self.assertEqual([line.roads(name) for name in line.names()], [1, 2, 3, 1, 2])
        self.assertEqual([line.number_of(name) for name in line.names()], [0, 1, 2, 3, 4])

    def test_stretches(self):
        line = full_line()
        self.assertEqual(line.many_stretches(), 4)
        self.assertEqual([line.ends(k) for k in range(4)], [("ab", "c"), ("c", "def"), ("def", "g"), ("g", "h")])
        self.assertEqual([line.kind(k) for k in range(4)], ["staff", "ticket", "ticket", "staff"])
        self.assertEqual([line.home(k) for k in range(4)], ["ab", "def", "def", "h"])

    def test_between(self):
        line = full_line()
        for one, other in product(range(5), range(5)):
            told = line.between(PLACES[one][0], PLACES[other][0])
            self.assertEqual(told, min(one, other) if abs(one - other) == 1 else None)

    def test_long_stretches(self):
        line = full_line()
        self.assertEqual(line.many_longs(), 2)
        self.assertEqual([line.long_ends(j) for j in (0, 1)], [("ab", "def"), ("def", "h")])
        self.assertEqual([line.long_stretches(j) for j in (0, 1)], [[0, 1], [2, 3]])
        self.assertEqual([line.long_home(j) for j in (0, 1)], ["def", "def"])
        self.assertEqual([line.long_of(k) for k in range(4)], [0, 0, 1, 1])

    def test_a_gap_between_two_longs(self):
        places = [(name, 1) for name in "abcdef"]
        line = Line(places, [("staff", 0)] * 5, [(0, 2, 0), (3, 5, 1)])
        self.assertEqual([line.long_of(k) for k in range(5)], [0, 0, None, 1, 1])
        self.assertEqual(line.long_stretches(1), [3, 4])
        self.assertEqual([line.long_home(j) for j in (0, 1)], ["a", "f"])

    def test_a_long_over_all(self):
        places = [(name, 1) for name in "abcdef"]
        line = Line(places, [("staff", 0)] * 5, [(0, 5, 1)])
        self.assertEqual(line.long_ends(0), ("a", "f"))
        self.assertEqual(line.long_stretches(0), [0, 1, 2, 3, 4])
        self.assertEqual(line.long_home(0), "f")
        self.assertEqual(line.long_between("b", "f"), None)

    def test_long_between(self):
        line = full_line()
        names = line.names()
        told = {(a, b): line.long_between(a, b) for a, b in product(names, names)}
        found = {pair: j for pair, j in told.items() if j is not None}
        self.assertEqual(found, {("ab", "def"): 0, ("def", "ab"): 0, ("def", "h"): 1, ("h", "def"): 1})

    def test_all_of_itself(self):
        self.assertEqual(full_line().told(), (tuple(PLACES), tuple(STRETCHES), tuple(LONGS)))
        told = full_line().told()
        self.assertEqual([type(part) for part in told], [tuple] * 3)
        self.assertEqual({type(row) for part in told for row in part}, {tuple})
        self.assertEqual(Line(*told).told(), told)

    def test_longs_left_out_none_or_empty(self):
        told = ((("a", 1), ("b", 1), ("c", 1)), (("staff", 0), ("ticket", 1)), ())
        left_out = Line([("a", 1), ("b", 1), ("c", 1)], [("staff", 0), ("ticket", 1)])
        for line in (left_out, short_line(None), short_line([]), short_line(())):
            self.assertEqual(line.told(), told)
            self.assertEqual(line.many_longs(), 0)
            self.assertEqual(line.long_of(0), None)
            self.assertEqual(line.long_between("a", "c"), None)

    def test_two_and_six_places(self):
        least = Line([("a", 1), ("b", 3)], [("ticket", 1)])
        self.assertEqual((least.many_stretches(), least.ends(0), least.home(0)), (1, ("a", "b"), "b"))
        most = Line([(name, 3) for name in "fedcba"], [("staff", 1)] * 5)
        self.assertEqual(most.names(), ["f", "e", "d", "c", "b", "a"])
        self.assertEqual(most.many_stretches(), 5)


class Copies(unittest.TestCase):
    def test_lists_and_tuples_alike(self):
        of_tuples = Line(tuple(PLACES), tuple(STRETCHES), tuple(LONGS))
        self.assertEqual(all_told(of_tuples), all_told(full_line()))

    def test_what_is_handed_in_is_not_changed_and_changed_afterwards(self):
        places, stretches, longs = list(PLACES), list(STRETCHES), list(LONGS)
        line = Line(places, stretches, longs)
        self.assertEqual((places, stretches, longs), (PLACES, STRETCHES, LONGS))
        before = all_told(line)
        places[0] = ("x", 3)
        places.pop()
        stretches.clear()
        longs[:] = [(0, 4, 1)]
        self.assertEqual(all_told(line), before)

    def test_what_is_told_is_the_askers_own(self):
        line = full_line()
        before = all_told(line)
        line.names().append("x")
        line.names().clear()
        line.long_stretches(0).append(9)
        line.long_stretches(1).clear()
        self.assertEqual(all_told(line), before)
        self.assertIsNot(line.names(), line.names())
        self.assertIsNot(line.long_stretches(0), line.long_stretches(0))

    def test_a_refusal_changes_nothing(self):
        line = full_line()
        before = all_told(line)
        for call in (line.roads, line.ends, line.long_ends, line.long_of, line.renamed):
            with self.assertRaises(ValueError):
                call(None)
        self.assertEqual(all_told(line), before)


class RefusedPlaces(unittest.TestCase):
    def refused(self, error, thing, places, stretches=None, longs=None):
        refused(self, error, "found", thing, Line, places, stretches, longs)

    def test_no_list_of_two_to_six(self):
        for places in any_things():
            if not (isinstance(places, (list, tuple)) and len(places) >= 2):
                self.refused(NoPlaces, places, places)
        for many in (0, 1, 7, 100):
            places = [("abcdefg"[k % 7], 1) for k in range(many)]
            self.refused(NoPlaces, places, places)
            places = tuple(places)
            self.refused(NoPlaces, places, places)

    def test_no_tuple_of_two(self):
        for place in any_things() + [["b", 1], ("b",), ("b", 1, 1), "bc"]:
            if isinstance(place, tuple) and len(place) == 2:
                continue
            self.refused(NoPlaces, place, [("a", 1), place])
            self.refused(NoPlaces, place, (place, ("a", 1), ("a", 9)))

    def test_no_name(self):
        for name in any_things():
            self.refused(NoName, name, [("a", 1), (name, 1)])
            self.refused(NoName, name, [(name, None), ("a", 1)])

    def test_twice(self):
        name = "".join(["a", "b"])
        self.refused(Twice, name, [("ab", 1), ("c", 1), (name, None)])
        self.refused(Twice, name, [("c", 1), ("ab", 1), (name, 1)])

    def test_no_number(self):
        for roads in any_things() + [0, 4, "2"]:
            self.refused(NoNumber, roads, [("a", 1), ("b", roads)])
        for roads in (1, 2, 3):
            self.assertEqual(Line([("a", 1), ("b", roads)], [("staff", 0)]).roads("b"), roads)

    def test_the_first_place_goes_first(self):
        self.refused(NoNumber, True, [("a", True), ("A", 1)])
        self.refused(Twice, "a", [("a", 1), ("a", 0), None])
        self.refused(NoName, "A", [("a", 1), ("A", 0), ("a", 1)])
        self.refused(NoPlaces, None, [None, ("A", 1)])

    def test_the_whole_goes_ahead_of_its_places(self):
        places = [("A", 0)] * 7
        self.refused(NoPlaces, places, places)


class RefusedStretches(unittest.TestCase):
    def refused(self, thing, stretches, longs=None):
        refused(self, NoStretches, "found", thing, Line, PLACES[:3], stretches, longs)

    def test_no_list_of_as_many_as_neighbours(self):
        for stretches in any_things():
            if not (isinstance(stretches, (list, tuple)) and len(stretches) == 2):
                self.refused(stretches, stretches)
        for many in (0, 1, 3, 6):
            stretches = [("staff", 0)] * many
            self.refused(stretches, stretches)

    def test_no_such_tuple(self):
        wrong = [["staff", 0], ("staff",), ("staff", 0, 0), ("Staff", 0), ("staff ", 0), ("pilot", 0)]
        wrong += [("staff", home) for home in any_things() + [2]]
        wrong += [(kind, 0) for kind in any_things() + [0, 1]]
        for stretch in any_things() + wrong:
            self.refused(stretch, [("ticket", 1), stretch])
            self.refused(stretch, (stretch, None))

    def test_all_such_tuples(self):
        for stretch in product(("staff", "ticket"), (0, 1)):
            line = Line([("a", 1), ("b", 1)], [stretch])
            self.assertEqual((line.kind(0), line.home(0)), (stretch[0], "ab"[stretch[1]]))

    def test_behind_places_and_ahead_of_longs(self):
        refused(self, NoName, "found", "A", Line, BROKEN, None, 7)
        self.refused(None, None, 7)
        self.refused(None, [("staff", 0), None], 7)


class RefusedLongs(unittest.TestCase):
    def refused(self, thing, longs):
        refused(self, NoLongs, "found", thing, Line, PLACES, STRETCHES, longs)

    def test_no_list_of_at_most_two(self):
        for longs in any_things():
            if longs is not None and not (isinstance(longs, (list, tuple)) and len(longs) < 3):
                self.refused(longs, longs)
        longs = [(0, 2, 0), (2, 4, 0), (4, 6, 0)]
        self.refused(longs, longs)

    def test_no_such_tuple(self):
        wrong = [[0, 2, 0], (0, 2), (0, 2, 0, 0), (0, 1, 0), (0, 0, 0), (2, 0, 0), (0, 5, 0), (3, 5, 0), (4, 6, 1)]
        wrong += [(first, 4, 0) for first in any_things() + [3, 4]]
        wrong += [(0, last, 0) for last in any_things() + [0, 1, 5]]
        wrong += [(0, 2, home) for home in any_things() + [2]]
        for long in any_things() + wrong:
            self.refused(long, [long])
            self.refused(long, [(0, 2, 0), long])
            self.refused(long, (long, None))

    def test_the_second_begins_where_the_first_ends_or_later(self):
        for second in ((0, 2, 0), (1, 3, 0), (1, 4, 0), (0, 4, 0)):
            self.refused(second, [(0, 3, 0), second])
            self.refused(second, [(2, 4, 0), second])
        places = [(name, 1) for name in "abcdef"]
        for first in range(4):
            second = (first, 5, 0)
            longs = [(0, 2, 0), second]
            if first >= 2:
                self.assertEqual(Line(places, [("staff", 0)] * 5, longs).told()[2], tuple(longs))
            else:
                refused(self, NoLongs, "found", second, Line, places, [("staff", 0)] * 5, longs)

    def test_just_the_right_tuples(self):
        numbers = range(-1, 6)
        for first, last, home in product(numbers, numbers, range(-1, 3)):
            right = 0 <= first and first + 2 <= last <= 4 and home in (0, 1)
            long = (first, last, home)
            if right:
                self.assertEqual(Line(PLACES, STRETCHES, [long]).told()[2], (long,))
            else:
                self.refused(long, [long])

    def test_no_room_for_a_long(self):
        long = (0, 2, 0)
        refused(self, NoLongs, "found", long, Line, PLACES[:2], STRETCHES[:1], [long])


class RefusedQuestions(unittest.TestCase):
    def test_no_place(self):
        line = full_line()
        asks = [line.roads, line.number_of]
        asks += [lambda name: line.between(name, "c"), lambda name: line.between("c", name)]
        asks += [lambda name: line.long_between(name, "c"), lambda name: line.long_between("c", name)]
        for ask in asks:
            for name in any_things() + ["x", "a", "abc", 0, 1]:
                refused(self, NoPlace, "found", name, ask, name)

    def test_the_first_name_goes_first(self):
        line = full_line()
        for one, other in product(any_things()[:12], [[], "x", 7]):
            refused(self, NoPlace, "found", one, line.between, one, other)
            refused(self, NoPlace, "found", one, line.long_between, one, other)
        refused(self, NoPlace, "found", "x", line.between, "x", "x")

    def test_no_stretch(self):
        line = full_line()
        for ask in (line.ends, line.kind, line.home, line.long_of):
            for k in any_things() + [4, "ab"]:
                refused(self, NoStretch, "found", k, ask, k)

    def test_no_long(self):
        line = full_line()
        for ask in (line.long_ends, line.long_stretches, line.long_home):
            for j in any_things() + [2, "ab"]:
                refused(self, NoLong, "found", j, ask, j)
        for j in (0, 1, False, BIG):
            refused(self, NoLong, "found", j, short_line().long_home, j)


if __name__ == "__main__":
    unittest.main()
