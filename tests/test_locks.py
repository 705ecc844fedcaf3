"""Points 31 to 34: the lock of a staff, and the rights of a place."""

import random
import unittest

from onestaff.errors import NoNumber, NoRight, NotShut, Shut
from onestaff.locks import Holder, Keeper
from tests.things import BIG, any_things, refused


def told_of(keeper):
    return keeper.times(), keeper.locked(), keeper.is_open()


def told_by(holder):
    return holder.right(), holder.seen(), holder.noted()


def locked_keeper(times=1, to="a"):
    """A keeper that is locked for the time that is told, by that number."""
    keeper = Keeper()
    for number in range(1, times):
        keeper.lock("z")
        keeper.ended(number)
    keeper.lock(to)
    return keeper


class Keepers(unittest.TestCase):
    def refused(self, error, found, call, *args):
        with self.assertRaises(error) as caught:
            call(*args)
        self.assertIs(type(caught.exception), error)
        self.assertEqual(caught.exception.found, found)
        self.assertEqual(type(caught.exception.found), type(found))

    def test_at_first(self):
        keeper = Keeper()
        self.assertEqual(told_of(keeper), (0, None, False))
        self.assertIs(keeper.is_open(), False)
        self.assertIs(keeper.opens(0), False)
        self.assertIs(keeper.opens(1), False)
        self.assertEqual(told_of(keeper), (0, None, False))

    def test_locked(self):
        keeper = Keeper()
        self.assertEqual(keeper.lock("ab"), 1)
        self.assertEqual(told_of(keeper), (1, (1, "ab"), False))

    def test_locked_already(self):
        keeper = locked_keeper(2, "ab")
        self.refused(Shut, "ab", keeper.lock, "c")
        self.refused(Shut, "ab", keeper.lock, "ab")
        keeper.opens(2)
        self.refused(Shut, "ab", keeper.lock, "c")
        self.assertEqual(told_of(keeper), (2, (2, "ab"), True))

    def test_numbers_go_on_whatever_lay_between(self):
        keeper = Keeper()
        self.assertEqual(keeper.lock("a"), 1)
        keeper.opens(1)
        keeper.unlock()
        self.assertEqual(keeper.lock("b"), 2)
        keeper.ended(2)
        self.assertEqual(keeper.lock("a"), 3)
        self.assertEqual(told_of(keeper), (3, (3, "a"), False))

    def test_opened_once(self):
        keeper = locked_keeper(2)
        self.assertIs(keeper.opens(2), True)
        self.assertEqual(told_of(keeper), (2, (2, "a"), True))
        self.assertIs(keeper.opens(2), False)
        self.assertEqual(told_of(keeper), (2, (2, "a"), True))

    def test_not_opened_by_other_things(self):
        keeper = locked_keeper(2)
        for thing in any_things() + [1, 3, 0, "2", (2, "a")]:
            self.assertIs(keeper.opens(thing), False)
            self.assertEqual(told_of(keeper), (2, (2, "a"), False))
        self.assertIs(locked_keeper(1).opens(True), False)
        self.assertIs(locked_keeper(1).opens(1), True)

    def test_a_lock_that_is_over_opens_no_more(self):
        keeper = locked_keeper()
        keeper.ended(1)
        self.assertIs(keeper.opens(1), False)
        self.assertEqual(told_of(keeper), (1, None, False))
        keeper.lock("b")
        self.assertIs(keeper.opens(1), False)
        self.assertEqual(told_of(keeper), (2, (2, "b"), False))

    def test_unlocked(self):
        keeper = locked_keeper(3)
        keeper.opens(3)
        self.assertIsNone(keeper.unlock())
        self.assertEqual(told_of(keeper), (3, None, False))

    def test_not_unlocked(self):
        self.refused(NotShut, None, Keeper().unlock)
        keeper = locked_keeper(3)
        self.refused(NoRight, 3, keeper.unlock)
        self.assertEqual(told_of(keeper), (3, (3, "a"), False))
        keeper.ended(3)
        self.refused(NotShut, None, keeper.unlock)

    def test_ended_open_or_not(self):
        for is_open in (False, True):
            keeper = locked_keeper(2)
            if is_open:
                keeper.opens(2)
            self.assertIsNone(keeper.ended(2))
            self.assertEqual(told_of(keeper), (2, None, False))

    def test_not_ended(self):
        for thing in any_things() + [1, 2, 0]:
            self.refused(NotShut, None, Keeper().ended, thing)
        for is_open in (False, True):
            keeper = locked_keeper(2)
            if is_open:
                keeper.opens(2)
            for thing in any_things() + [1, 3, 0, "2"]:
                self.refused(NoRight, 2, keeper.ended, thing)
            self.assertEqual(told_of(keeper), (2, (2, "a"), is_open))
        self.refused(NoRight, 1, locked_keeper(1).ended, True)
        keeper = locked_keeper(1)
        keeper.ended(1)
        self.refused(NotShut, None, keeper.ended, 1)

    def test_twins(self):
        keeper = locked_keeper(2)
        twin = keeper.twin()
        self.assertIsInstance(twin, Keeper)
        self.assertEqual(told_of(twin), (2, (2, "a"), False))
        twin.opens(2)
        other = twin.twin()
        self.assertEqual(told_of(other), (2, (2, "a"), True))
        twin.unlock()
        self.assertEqual(twin.lock("b"), 3)
        self.assertEqual(told_of(keeper), (2, (2, "a"), False))
        self.assertEqual(told_of(twin), (3, (3, "b"), False))
        self.assertEqual(told_of(other), (2, (2, "a"), True))
        keeper.ended(2)
        self.assertEqual(told_of(other.twin()), (2, (2, "a"), True))
        self.assertEqual(told_of(Keeper().twin()), (0, None, False))


class Holders(unittest.TestCase):
    def test_at_first(self):
        holder = Holder()
        self.assertEqual(told_by(holder), (None, 0, None))
        refused(self, NoRight, "found", None, holder.use)
        refused(self, NoRight, "found", None, holder.give)
        self.assertEqual(told_by(holder), (None, 0, None))

    def test_got(self):
        holder = Holder()
        self.assertIs(holder.got(3, "ab"), True)
        self.assertEqual(told_by(holder), ((3, "ab"), 3, None))
        self.assertIs(holder.got(7, "c"), True)
        self.assertEqual(told_by(holder), ((7, "c"), 7, None))

    def test_got_twice_or_late(self):
        holder = Holder()
        holder.got(3, "ab")
        for number in (3, 2, 1):
            self.assertIs(holder.got(number, "c"), False)
            self.assertEqual(told_by(holder), ((3, "ab"), 3, None))

    def test_got_after_it_was_used_or_given_up(self):
        for done in (Holder.use, Holder.give):
            holder = Holder()
            holder.got(2, "a")
            done(holder)
            before = told_by(holder)
            for number in (2, 1):
                self.assertIs(holder.got(number, "a"), False)
                self.assertEqual(told_by(holder), before)
            self.assertIs(holder.got(3, "a"), True)
            self.assertEqual(told_by(holder), ((3, "a"), 3, before[2]))

    def test_no_number(self):
        holder = Holder()
        holder.got(2, "a")
        for thing in any_things() + [0, -2, "3"]:
            if not isinstance(thing, int) or isinstance(thing, bool) or thing < 1:
                refused(self, NoNumber, "found", thing, holder.got, thing, "b")
                refused(self, NoNumber, "found", thing, Holder().got, thing, "b")
        self.assertEqual(told_by(holder), ((2, "a"), 2, None))

    def test_from_one_to_thirty_figures(self):
        for number in (1, 301, BIG):
            holder = Holder()
            self.assertIs(holder.got(number, "a"), True)
            self.assertEqual(told_by(holder), ((number, "a"), number, None))

    def test_used(self):
        holder = Holder()
        holder.got(2, "a")
        self.assertEqual(holder.use(), (2, "a"))
        self.assertEqual(told_by(holder), (None, 2, None))
        refused(self, NoRight, "found", None, holder.use)
        refused(self, NoRight, "found", None, holder.give)

    def test_given_up(self):
        holder = Holder()
        holder.got(2, "a")
        self.assertEqual(holder.give(), (2, "a"))
        self.assertEqual(told_by(holder), (None, 2, (2, "a")))
        refused(self, NoRight, "found", None, holder.use)
        refused(self, NoRight, "found", None, holder.give)
        holder.got(5, "b")
        self.assertEqual(told_by(holder), ((5, "b"), 5, (2, "a")))
        holder.use()
        self.assertEqual(told_by(holder), (None, 5, (2, "a")))

    def test_noted(self):
        holder = Holder()
        self.assertIsNone(holder.note(4, "a"))
        self.assertEqual(told_by(holder), (None, 0, (4, "a")))
        self.assertIs(holder.got(1, "b"), True)
        self.assertEqual(told_by(holder), ((1, "b"), 1, (4, "a")))
        holder.note(2, "c")
        self.assertEqual(told_by(holder), ((1, "b"), 1, (2, "c")))
        holder.give()
        self.assertEqual(told_by(holder), (None, 1, (1, "b")))

    def test_twins(self):
        holder = Holder()
        holder.got(1, "a")
        holder.give()
        holder.got(2, "b")
        twin = holder.twin()
        self.assertIsInstance(twin, Holder)
        other = twin.twin()
        self.assertEqual(told_by(twin), ((2, "b"), 2, (1, "a")))
        twin.give()
        other.got(3, "c")
        holder.note(9, "z")
        self.assertEqual(told_by(holder), ((2, "b"), 2, (9, "z")))
        self.assertEqual(told_by(twin), (None, 2, (2, "b")))
        self.assertEqual(told_by(other), ((3, "c"), 3, (1, "a")))
        holder.use()
        self.assertEqual(told_by(other), ((3, "c"), 3, (1, "a")))


class Together(unittest.TestCase):
    """Point 34: one keeper, the holders of two places, and words that are late, lost and doubled."""

    def test_a_right_is_always_that_of_the_lock(self):
        for seed in range(200):
            self.run_by(random.Random(seed))

    def run_by(self, chance):
        keeper, holders, used = Keeper(), {"a": Holder(), "b": Holder()}, []
        locks, opens = [], []
        for _ in range(60):
            step = chance.randint(0, 5)
            place = chance.choice("ab")
            holder = holders[place]
            if step == 0 and keeper.locked() is None:
                locks += [(place, keeper.lock(place))] * chance.randint(1, 3)
            elif step == 1 and locks:
                to, number = locks.pop(chance.randrange(len(locks)))
                if to == place or chance.random() < 0.8:
                    holders[to].got(number, "c")
                    locks += [(to, number)] * chance.randint(0, 1)
            elif step == 2 and holder.right() is not None:
                opens += [holder.give()[0]] * chance.randint(1, 3)
            elif step == 3 and holder.right() is not None:
                used.append(holder.use()[0])
            elif step == 4 and used:
                opens.append(used.pop())
            elif step == 5 and opens:
                keeper.opens(chance.choice(opens))
                if keeper.is_open():
                    keeper.unlock()
            self.holds(keeper, holders, used)

    def holds(self, keeper, holders, used):
        rights = [holder.right() for holder in holders.values()]
        numbers = used + [right[0] for right in rights if right is not None]
        self.assertLessEqual(len(numbers), 1)
        for number in numbers:
            self.assertEqual(keeper.locked()[0], number)
            self.assertIs(keeper.is_open(), False)


if __name__ == "__main__":
    unittest.main()
