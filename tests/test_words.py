"""Points 2, 3 and 11: whole numbers and names."""

import unittest

from onestaff.words import is_list, is_name, is_tuple, is_whole
from tests.things import BIG, any_things


class Whole(unittest.TestCase):
    def test_both_bounds_are_counted(self):
        told = [number for number in range(-9, 10) if is_whole(number, -2, 3) is True]
        self.assertEqual(told, [-2, -1, 0, 1, 2, 3])
        self.assertIs(is_whole(4, -2, 3), False)
        self.assertIs(is_whole(5, 5, 5), True)

    def test_truths_are_no_whole_numbers(self):
        for low, high in ((0, 1), (1, 1), (0, 0), (-BIG, BIG)):
            self.assertIs(is_whole(True, low, high), False)
            self.assertIs(is_whole(False, low, high), False)

    def test_low_above_high_takes_nothing(self):
        for number in range(-3, 8):
            self.assertIs(is_whole(number, 5, 0), False)
        self.assertIs(is_whole(0, 1, 0), False)

    def test_thirty_figures(self):
        self.assertEqual(len(str(BIG)), 30)
        self.assertIs(is_whole(BIG, -BIG, BIG), True)
        self.assertIs(is_whole(-BIG, -BIG, BIG), True)
        self.assertIs(is_whole(BIG, 0, BIG - 1), False)
        self.assertIs(is_whole(-BIG, 1 - BIG, BIG), False)
        self.assertIs(is_whole(BIG, BIG, -BIG), False)

    def test_of_any_thing(self):
        for thing in any_things():
            whole = isinstance(thing, int) and not isinstance(thing, bool)
            self.assertIs(is_whole(thing, -BIG, BIG), whole, repr(thing))


class Names(unittest.TestCase):
    def test_one_to_six_small_letters(self):
        for thing in ("a", "z", "ab", "zzzzzz", "abcdef", "staff"):
            self.assertIs(is_name(thing), True, thing)

    def test_none_and_seven_letters(self):
        for thing in ("", "abcdefg", "a" * 4000):
            self.assertIs(is_name(thing), False, thing)

    def test_each_sign_is_looked_at_at_each_spot(self):
        signs = [chr(code) for code in range(128)] + ["\u00e4", "\u0430", "\u0660"]
        for sign in signs:
            for thing in (sign, sign + "b", "b" + sign, "ab" + sign + "cd", "abcde" + sign):
                self.assertIs(is_name(thing), sign in "abcdefghijklmnopqrstuvwxyz", repr(thing))

    def test_of_any_thing(self):
        for thing in any_things():
            self.assertIs(is_name(thing), False, repr(thing))


class Rows(unittest.TestCase):
    def test_a_tuple_may_stand_for_a_list_but_not_a_list_for_a_tuple(self):
        self.assertIs(is_list([1, 2], 2, 3), True)
        self.assertIs(is_list((1, 2, 3), 2, 3), True)
        self.assertIs(is_tuple((1, 2), 2), True)
        self.assertIs(is_tuple([1, 2], 2), False)

    def test_how_many_things(self):
        self.assertEqual([is_list([0] * many, 2, 3) for many in range(5)], [False, False, True, True, False])
        self.assertEqual([is_tuple((0,) * many, 2) for many in range(4)], [False, False, True, False])

    def test_of_other_things(self):
        for thing in ("ab", {"a": 1, "b": 2}, None, 2, True):
            self.assertIs(is_list(thing, 0, 6), False, repr(thing))
            self.assertIs(is_tuple(thing, 2), False, repr(thing))


if __name__ == "__main__":
    unittest.main()
