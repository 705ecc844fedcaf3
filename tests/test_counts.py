"""Points 6, 22 and 23: counts of the trains that are through."""

import random
import unittest

from onestaff.counts import Count
from onestaff.errors import NoNumber
from tests.things import any_things, refused


def count_of(last, told=0):
    count = Count()
    for _ in range(last):
        count.out()
    if told:
        count.through(told)
    return count


class CountCase(unittest.TestCase):
    def holds(self, count, last, told):
        self.assertEqual((count.last(), count.told()), (last, told))
        self.assertIs(count.clear(), last == told)
        self.assertEqual({type(count.last()), type(count.told())}, {int})


class Counts(CountCase):
    def test_at_first(self):
        self.holds(Count(), 0, 0)

    def test_out(self):
        count = Count()
        for number in range(1, 6):
            self.assertEqual(count.out(), number)
            self.holds(count, number, 0)

    def test_through(self):
        count = count_of(3)
        for number in (1, 2, 3):
            self.assertIsNone(count.through(number))
            self.holds(count, 3, number)
        count.out()
        self.holds(count, 4, 3)

    def test_the_greatest_number_is_told(self):
        count = count_of(4)
        for number, told in ((2, 2), (1, 2), (2, 2), (4, 4), (3, 4), (1, 4), (4, 4)):
            self.assertIsNone(count.through(number))
            self.holds(count, 4, told)

    def test_the_last_one_alone(self):
        count = count_of(3)
        count.through(3)
        self.holds(count, 3, 3)

    def test_an_elder_number_does_not_clear(self):
        count = count_of(2, 1)
        self.holds(count, 2, 1)
        count.through(1)
        self.holds(count, 2, 1)

    def test_all_through(self):
        for last in range(4):
            for told in range(last + 1):
                count = count_of(last, told)
                self.assertIsNone(count.all_through())
                self.holds(count, last, last)
                self.assertEqual(count.out(), last + 1)
                self.holds(count, last + 1, last)

    def test_no_number(self):
        count = count_of(2, 1)
        for thing in any_things() + [0, 3, 10, "a"]:
            refused(self, NoNumber, "found", thing, count.through, thing)
        self.holds(count, 2, 1)
        for number in (0, 1, True):
            refused(self, NoNumber, "found", number, Count().through, number)

    def test_whatever_is_late_lost_or_said_again(self):
        chance = random.Random(22)
        for _ in range(100):
            count, last, greatest = Count(), 0, 0
            for _ in range(20):
                if chance.random() < 0.4 or not last:
                    last += 1
                    self.assertEqual(count.out(), last)
                elif chance.random() < 0.1:
                    count.all_through()
                    greatest = last
                else:
                    number = chance.randint(1, last)
                    count.through(number)
                    greatest = max(greatest, number)
                self.holds(count, last, greatest)


class Twins(CountCase):
    def test_as_it_is_then(self):
        twin = count_of(3, 2).twin()
        self.assertIsInstance(twin, Count)
        self.holds(twin, 3, 2)
        self.assertEqual(twin.out(), 4)

    def test_each_goes_its_own_way(self):
        count = count_of(3, 1)
        twin = count.twin()
        other = twin.twin()
        count.out()
        twin.through(3)
        other.all_through()
        other.out()
        self.holds(count, 4, 1)
        self.holds(twin, 3, 3)
        self.holds(other, 4, 3)


if __name__ == "__main__":
    unittest.main()
