"""Points 4, 5 and 14: lines the other way round, and renamed."""

import unittest
from itertools import permutations, product

from onestaff.errors import NoName, Twice
from onestaff.lines import Line
from tests.things import any_things, refused
from tests.test_lines import LONGS, PLACES, STRETCHES, all_told, full_line


def six_places(longs):
    stretches = [("staff", 0), ("ticket", 0), ("staff", 1), ("ticket", 1), ("staff", 0)]
    return Line([(name, 1) for name in "abcdef"], stretches, longs)


class Mirrored(unittest.TestCase):
    def test_told(self):
        line = full_line().mirrored()
        self.assertEqual(line.told(), (
            (("h", 2), ("g", 1), ("def", 3), ("c", 2), ("ab", 1)),
            (("staff", 0), ("ticket", 1), ("ticket", 0), ("staff", 1)),
            ((0, 2, 1), (2, 4, 0)),
        ))
        self.assertEqual(line.ends(0), ("h", "g"))

    def test_longs_stand_in_the_order_that_rises(self):
        line = six_places([(0, 3, 0), (3, 5, 0)]).mirrored()
        self.assertEqual(line.told()[2], ((0, 2, 1), (2, 5, 1)))

    def test_all_stays_between_the_same_places(self):
        for longs in (None, [(0, 2, 0)], [(1, 4, 1)], [(0, 5, 0)], [(0, 2, 1), (3, 5, 1)], [(0, 3, 0), (3, 5, 1)]):
            line = six_places(longs)
            other = line.mirrored()
            self.assertEqual(other.names(), line.names()[::-1])
            self.assertEqual(other.many_longs(), line.many_longs())
            for a, b in product(line.names(), line.names()):
                self.assert_alike(line, other, a, b)

    def assert_alike(self, line, other, a, b):
        self.assertEqual(other.roads(a), line.roads(a))
        k, m = line.between(a, b), other.between(a, b)
        self.assertEqual(m, None if k is None else line.many_stretches() - 1 - k)
        if k is not None:
            self.assertEqual((other.kind(m), other.home(m)), (line.kind(k), line.home(k)))
        j, i = line.long_between(a, b), other.long_between(a, b)
        self.assertEqual(i, None if j is None else line.many_longs() - 1 - j)
        if j is not None:
            self.assertEqual(other.long_home(i), line.long_home(j))
            self.assertEqual(other.long_ends(i), line.long_ends(j)[::-1])

    def test_twice_the_other_way_round_is_the_same(self):
        self.assertEqual(all_told(full_line().mirrored().mirrored()), all_told(full_line()))
        two = Line([("a", 1), ("b", 2)], [("ticket", 0)])
        self.assertEqual(two.mirrored().told(), ((("b", 2), ("a", 1)), (("ticket", 1),), ()))

    def test_a_new_line_each_time(self):
        line = full_line()
        before = all_told(line)
        one, other = line.mirrored(), line.mirrored()
        self.assertIsInstance(one, Line)
        self.assertIsNot(one, other)
        self.assertEqual(all_told(one), all_told(other))
        self.assertEqual(all_told(line), before)


class Renamed(unittest.TestCase):
    def test_some_names(self):
        line = full_line().renamed({"c": "x", "h": "yz"})
        self.assertEqual(line.told(), (
            (("ab", 1), ("x", 2), ("def", 3), ("g", 1), ("yz", 2)), tuple(STRETCHES), tuple(LONGS),
        ))
        self.assertEqual(line.between("x", "def"), 1)

    def test_no_names(self):
        line = full_line()
        self.assertEqual(all_told(line.renamed({})), all_told(line))
        self.assertIsNot(line.renamed({}), line)

    def test_two_names_are_exchanged(self):
        line = full_line().renamed({"ab": "c", "c": "ab"})
        self.assertEqual(line.told()[0], (("c", 1), ("ab", 2)) + tuple(PLACES[2:]))

    def test_all_orders_of_the_names(self):
        names = [name for name, _ in PLACES]
        for order in permutations(names):
            told = full_line().renamed(dict(zip(names, order))).told()
            self.assertEqual(told[0], tuple((name, PLACES[k][1]) for k, name in enumerate(order)))
            self.assertEqual(told[1:], full_line().told()[1:])

    def test_names_that_move_up_one_behind_the_other(self):
        line = full_line().renamed({"ab": "c", "c": "def", "def": "x"})
        self.assertEqual(line.names(), ["c", "def", "x", "g", "h"])

    def test_keys_that_no_place_has(self):
        line = full_line()
        names = {"x": "c", "c": "x", 0: "ab", True: None, (): [], None: "c", "": "A", "q": "x", line: 1, "y": None}
        self.assertEqual(line.renamed(names).names(), ["ab", "x", "def", "g", "h"])

    def test_no_dict(self):
        for names in any_things():
            if not isinstance(names, dict):
                refused(self, NoName, "found", names, full_line().renamed, names)

    def test_no_name(self):
        for name in any_things():
            for place in ("ab", "def", "h"):
                refused(self, NoName, "found", name, full_line().renamed, {place: name})

    def test_twice(self):
        name = "".join(["d", "ef"])
        line = full_line()
        refused(self, Twice, "found", name, line.renamed, {"g": name})
        refused(self, Twice, "found", name, line.renamed, {"ab": "x", "h": name, "g": "y"})
        with self.assertRaises(Twice) as caught:
            line.renamed({"ab": "def"})
        self.assertEqual(caught.exception.found, "def")
        with self.assertRaises(Twice) as caught:
            line.renamed({"ab": "x", "c": "x", "def": 7})
        self.assertEqual(caught.exception.found, "x")

    def test_the_first_place_goes_first(self):
        refused(self, NoName, "found", 7, full_line().renamed, {"h": 8, "c": 7})
        refused(self, NoName, "found", 7, full_line().renamed, {"c": 7, "def": "ab"})
        with self.assertRaises(Twice):
            full_line().renamed({"c": "ab", "def": 7})

    def test_the_dict_and_the_line_stay(self):
        line = full_line()
        before = all_told(line)
        names = {"ab": "c", "c": "ab", "x": ["y"]}
        told = line.renamed(names)
        self.assertEqual(names, {"ab": "c", "c": "ab", "x": ["y"]})
        names["ab"] = "z"
        self.assertEqual(told.names(), ["c", "ab", "def", "g", "h"])
        self.assertEqual(all_told(line), before)

    def test_back_again(self):
        line = full_line().renamed({"ab": "x", "def": "ab"}).renamed({"x": "ab", "ab": "def"})
        self.assertEqual(all_told(line), all_told(full_line()))

    def test_renamed_and_mirrored_in_either_order(self):
        names = {"ab": "h", "h": "ab", "c": "x"}
        one = full_line().renamed(names).mirrored()
        self.assertEqual(all_told(one), all_told(full_line().mirrored().renamed(names)))


if __name__ == "__main__":
    unittest.main()
