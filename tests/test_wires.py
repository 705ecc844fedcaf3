"""Points 21 and 23: words under way."""

import random
import unittest

from onestaff.errors import NoWord
from onestaff.wires import Wire
from tests.things import BIG, any_things, refused

WORDS = [("a", "b", "lock", 0, 1), ("b", "a", "open", 0, 1), (), ("x",), (BIG, "a")]


def full_wire():
    wire = Wire()
    for word in WORDS:
        wire.send(word)
    return wire


class Wires(unittest.TestCase):
    def test_at_first(self):
        wire = Wire()
        self.assertEqual(wire.under_way(), [])
        self.assertEqual(wire.sent(), 0)
        for number in (0, 1, -1, False):
            refused(self, NoWord, "found", number, wire.get, number)
            refused(self, NoWord, "found", number, wire.lose, number)

    def test_sent(self):
        wire = Wire()
        self.assertEqual([wire.send(word) for word in WORDS], [0, 1, 2, 3, 4])
        self.assertEqual(wire.sent(), 5)
        self.assertEqual(wire.under_way(), list(enumerate(WORDS)))
        self.assertEqual([type(row) for row in wire.under_way()], [tuple] * 5)

    def test_got(self):
        wire = full_wire()
        self.assertEqual(wire.get(1), WORDS[1])
        self.assertEqual(wire.under_way(), [(0, WORDS[0]), (2, WORDS[2]), (3, WORDS[3]), (4, WORDS[4])])
        self.assertEqual(wire.sent(), 5)

    def test_lost(self):
        wire = full_wire()
        self.assertIsNone(wire.lose(3))
        self.assertEqual(wire.under_way(), [(0, WORDS[0]), (1, WORDS[1]), (2, WORDS[2]), (4, WORDS[4])])
        self.assertEqual(wire.sent(), 5)

    def test_numbers_go_on(self):
        wire = Wire()
        self.assertEqual(wire.send(WORDS[0]), 0)
        wire.get(0)
        self.assertEqual(wire.send(WORDS[1]), 1)
        wire.lose(1)
        self.assertEqual(wire.send(WORDS[2]), 2)
        self.assertEqual((wire.sent(), wire.under_way()), (3, [(2, WORDS[2])]))

    def test_two_equal_words_are_two(self):
        wire = Wire()
        self.assertEqual([wire.send(("a", 1)), wire.send(("a", 1))], [0, 1])
        self.assertEqual(wire.under_way(), [(0, ("a", 1)), (1, ("a", 1))])
        self.assertEqual(wire.get(0), ("a", 1))
        self.assertEqual(wire.under_way(), [(1, ("a", 1))])
        self.assertEqual(wire.get(1), ("a", 1))
        self.assertEqual(wire.under_way(), [])

    def test_once_only(self):
        wire = full_wire()
        wire.get(0)
        wire.lose(1)
        before = wire.under_way()
        for number in (0, 1):
            refused(self, NoWord, "found", number, wire.get, number)
            refused(self, NoWord, "found", number, wire.lose, number)
        self.assertEqual((wire.under_way(), wire.sent()), (before, 5))

    def test_no_number_of_a_word(self):
        wire = full_wire()
        for thing in any_things() + [5, -5, "a", WORDS[0]]:
            refused(self, NoWord, "found", thing, wire.get, thing)
            refused(self, NoWord, "found", thing, wire.lose, thing)
        self.assertEqual((wire.under_way(), wire.sent()), (list(enumerate(WORDS)), 5))

    def test_got_in_any_order(self):
        chance = random.Random(21)
        for _ in range(50):
            wire = full_wire()
            left = dict(enumerate(WORDS))
            for number in chance.sample(range(5), 5):
                if chance.random() < 0.3:
                    self.assertIsNone(wire.lose(number))
                else:
                    self.assertEqual(wire.get(number), WORDS[number])
                del left[number]
                self.assertEqual(wire.under_way(), sorted(left.items()))

    def test_what_is_told_is_the_askers_own(self):
        wire = full_wire()
        wire.under_way().clear()
        told = wire.under_way()
        told[0] = (9, ())
        self.assertEqual(wire.under_way(), list(enumerate(WORDS)))


class Twins(unittest.TestCase):
    def test_as_it_is_then(self):
        wire = full_wire()
        wire.get(1)
        twin = wire.twin()
        self.assertIsInstance(twin, Wire)
        self.assertEqual((twin.under_way(), twin.sent()), (wire.under_way(), 5))
        self.assertEqual(twin.send(("new",)), 5)

    def test_each_goes_its_own_way(self):
        wire = full_wire()
        twin = wire.twin()
        other = twin.twin()
        wire.get(0)
        twin.lose(1)
        twin.send(("x",))
        other.get(2)
        rows = list(enumerate(WORDS))
        self.assertEqual((wire.under_way(), wire.sent()), (rows[1:], 5))
        self.assertEqual((twin.under_way(), twin.sent()), ([rows[0]] + rows[2:] + [(5, ("x",))], 6))
        self.assertEqual((other.under_way(), other.sent()), (rows[:2] + rows[3:], 5))
        self.assertEqual(twin.get(0), WORDS[0])
        self.assertEqual(other.get(0), WORDS[0])


if __name__ == "__main__":
    unittest.main()
