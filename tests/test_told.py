"""Points 4, 47 and 48: what a day tells, refuses to tell, and its twins."""

import random
import unittest

from onestaff.days import Day
from onestaff.errors import NoLong, NoPlace, NoStretch, NoTrain
from onestaff.lines import Line
from tests.days import TAKE, answers, day_behind, everything, full_day
from tests.things import any_things, refused
from tests.walks import chance_day, walk

BUSY = "leave x b ticket; lock c 2 d; get 0; come x; leave z b staff; walk z c"


def busy_day():
    return day_behind(BUSY)


class Told(unittest.TestCase):
    def test_a_busy_day(self):
        day = busy_day()
        self.assertEqual((day.where("x"), day.where("z")), (("at", "b"), ("stopped", "c", "b", "staff")))
        self.assertEqual((day.at("a"), day.at("b"), day.at("c")), (["y"], ["x"], []))
        self.assertEqual([day.staff(k) for k in range(3)], [("at", "a"), ("held", "c", "z"), ("locked", "c", "d")])
        self.assertEqual([day.pending(name, 0) for name in "abcd"], [1, None, None, None])
        self.assertEqual([day.inside(k) for k in range(3)], [[], ["z"], []])
        self.assertEqual([day.rights(name) for name in "abcd"], [[], [], [], [(2, 1, "c")]])
        self.assertEqual(day.words(), [(1, ("b", "a", "through", 0, 1))])
        self.assertEqual(day.done(), 6)
        self.assertEqual(day.book("c"), [
            (2, ("lock", "c", 2, "d")), (5, ("leave", "z", "b", "staff")), (6, ("walk", "z", "c")),
        ])
        self.assertEqual(day.lock_of(2), (1, (1, "d"), False))

    def test_known(self):
        day = busy_day()
        self.assertEqual(day.known("a"), [
            (0, 1, 0, None, None, 0, None), (1, 0, 0, None, None, 0, None), (2, 0, 0, None, None, 0, None),
        ])
        self.assertEqual(day.known("b")[0], (0, 0, 0, 1, None, 0, None))
        self.assertEqual(day.known("d")[2], (2, 0, 0, None, (1, "c"), 1, None))
        day.do(("give", "d", 2))
        self.assertEqual(day.known("d")[2], (2, 0, 0, None, None, 1, (1, "c")))

    def test_all_of_itself(self):
        nothing = (0, 0, None, None, 0, None)
        still = tuple((k,) + nothing for k in range(3))
        self.assertEqual(busy_day().told(), (
            (("x", ("at", "b")), ("y", ("at", "a")), ("z", ("stopped", "c", "b", "staff"))),
            (("a", ("y",)), ("b", ("x",)), ("c", ()), ("d", ())),
            (
                (0, ("at", "a"), (0, None, False)), (1, ("held", "c", "z"), (0, None, False)),
                (2, ("locked", "c", "d"), (1, (1, "d"), False)),
            ),
            ((0, None), (1, None), (2, None)),
            ((0, ("box", "a")),),
            (
                ("a", ((0, 1, 0, None, None, 0, None),) + still[1:]), ("b", ((0, 0, 0, 1, None, 0, None),) + still[1:]),
                ("c", still), ("d", still[:2] + ((2, 0, 0, None, (1, "c"), 1, None),)),
            ),
            ((1, ("b", "a", "through", 0, 1)),),
            2,
            6,
        ))

    def test_told_is_made_of_what_is_told(self):
        for seed in range(25):
            chance = random.Random(seed)
            day = chance_day(chance)
            walk(day, chance, 40)
            self.assert_made(day)

    def assert_made(self, day):
        names, stretches = day.line().names(), range(day.line().many_stretches())
        longs = range(day.line().many_longs())
        self.assertEqual(day.told(), (
            tuple((train, day.where(train)) for train in day.trains()),
            tuple((name, tuple(day.at(name))) for name in names),
            tuple((k, day.staff(k), day.lock_of(k)) for k in stretches),
            tuple((k, day.pilot(k)) for k in stretches),
            tuple((j, day.long_staff(j)) for j in longs),
            tuple((name, tuple(day.known(name))) for name in names),
            tuple(day.words()),
            len(day.words()) + gone(day),
            day.done(),
        ))
        for name in names:
            self.assertEqual(day.rights(name), [(row[0],) + row[4] for row in day.known(name) if row[4] is not None])
            for k in stretches:
                _, last, told = day.known(name)[k][:3]
                self.assertEqual(day.pending(name, k), last if last != told else None)
        for k in stretches:
            inside = [train for train in day.trains() if k in stretches_of(day, train)]
            self.assertEqual(day.inside(k), inside)

    def test_nothing_told_is_a_list_inside_of_all_of_itself(self):
        self.assertEqual(hash(busy_day().told()), hash(busy_day().told()))


def gone(day):
    return len([deed for deed in day.deeds() if deed[0] in ("get", "lose")])


def stretches_of(day, train):
    spot = day.where(train)
    if spot[0] == "at":
        return []
    if spot[0] == "helping":
        return stretches_of(day, spot[2])
    one, other = sorted(day.line().number_of(place) for place in spot[1:3])
    return range(one, other)


class OwnAnswers(unittest.TestCase):
    def test_lists_are_the_askers_own(self):
        day = day_behind(BUSY + "; again b through 0")
        before = everything(day)
        calls = [day.trains, day.words, day.deeds, day.may]
        calls += [lambda name=name: day.at(name) for name in "abcd"]
        calls += [lambda name=name: day.book(name) for name in "abcd"]
        calls += [lambda name=name: day.rights(name) for name in "abcd"]
        calls += [lambda name=name: day.known(name) for name in "abcd"]
        calls += [lambda name=name: day.may(name) for name in "abcd"]
        calls += [lambda k=k: day.inside(k) for k in range(3)]
        for call in calls:
            told = call()
            self.assertIs(type(told), list)
            told.append("x")
            told.reverse()
            call().clear()
            self.assertEqual(everything(day), before)

    def test_the_same_question_has_an_equal_answer(self):
        self.assertEqual(everything(busy_day()), everything(busy_day()))
        day = busy_day()
        self.assertEqual(everything(day), everything(day))


class Refused(unittest.TestCase):
    def test_no_train(self):
        for thing in any_things() + ["a", "w", 0]:
            refused(self, NoTrain, "found", thing, busy_day().where, thing)

    def test_no_place(self):
        day = busy_day()
        calls = [day.at, day.book, day.rights, day.known, lambda place: day.pending(place, 0)]
        for call in calls:
            for thing in any_things() + ["x", "e", 0]:
                refused(self, NoPlace, "found", thing, call, thing)
        for thing in any_things() + ["x", "e", 0]:
            if thing is not None:
                refused(self, NoPlace, "found", thing, day.may, thing)

    def test_no_stretch(self):
        day = busy_day()
        for call in (day.staff, day.pilot, day.inside, day.lock_of, lambda k: day.pending("a", k)):
            for thing in any_things() + [3, -3, "0"]:
                refused(self, NoStretch, "found", thing, call, thing)

    def test_no_long(self):
        for thing in any_things() + [1, "0"]:
            refused(self, NoLong, "found", thing, busy_day().long_staff, thing)
        day = Day(Line([("a", 1), ("b", 1)], [("staff", 0)]), [("x", "a")])
        refused(self, NoLong, "found", 0, day.long_staff, 0)

    def test_the_first_thing_goes_first(self):
        refused(self, NoPlace, "found", "e", busy_day().pending, "e", 9)

    def test_a_refusal_changes_nothing(self):
        day = busy_day()
        before = everything(day)
        for call in (day.where, day.at, day.staff, day.pilot, day.long_staff, day.lock_of, day.inside, day.book):
            with self.assertRaises(ValueError):
                call([])
        self.assertEqual(everything(day), before)


class Twins(unittest.TestCase):
    def test_as_it_is_then(self):
        for seed in range(20):
            chance = random.Random(seed)
            day = chance_day(chance)
            walk(day, chance, 30)
            twin = day.twin()
            self.assertIs(type(twin), Day)
            self.assertEqual(everything(twin), everything(day))
            self.assertEqual(twin.line().told(), day.line().told())

    def test_each_goes_its_own_way(self):
        for seed in range(20):
            chance = random.Random(seed)
            day = chance_day(chance)
            walk(day, chance, 30)
            days = [day, day.twin()]
            days.append(days[1].twin())
            told = [everything(one) for one in days]
            for number in chance.sample(range(3), 3):
                walk(days[number], chance, 5)
                told[number] = everything(days[number])
                self.assertEqual([everything(one) for one in days], told)

    def test_they_go_on_alike(self):
        for seed in range(20):
            chance = random.Random(seed)
            day = chance_day(chance)
            walk(day, chance, 40)
            twin = day.twin()
            for _ in range(20):
                deeds = day.may()
                if deeds:
                    deed = chance.choice(deeds)
                    self.assertEqual(twin.do(deed), day.do(deed))
                    self.assertEqual(everything(twin), everything(day))

    def test_the_rights_that_go_with_a_long_staff(self):
        day = day_behind(TAKE, ends=["a", "b", "c"])
        twin = day.twin()
        other = twin.twin()
        twin.do(("box", "a", 0))
        before = answers(day)
        self.assertEqual((answers(other), day.lock_of(0)), (before, (1, (1, "a"), False)))
        other.do(("box", "a", 0))
        self.assertEqual(answers(day), before)
        day.do(("box", "a", 0))
        self.assertEqual(day.lock_of(0), (1, (1, "a"), True))
        self.assertEqual((answers(twin), answers(other)), (answers(day), answers(day)))

    def test_a_long_staff_that_both_take(self):
        day = day_behind("lock a 0 a; lock b 1 a; get 0", ends=["a", "b", "c"])
        twin = day.twin()
        for deed in (("take", "a", 0), ("box", "a", 0)):
            twin.do(deed)
        for deed in (("take", "a", 0), ("box", "a", 0)):
            day.do(deed)
        self.assertEqual(everything(day), everything(twin))
        self.assertEqual(day.words(), [(1, ("a", "b", "open", 1, 1))])

    def test_a_twin_of_a_new_day(self):
        self.assertEqual(everything(full_day().twin()), everything(full_day()))


if __name__ == "__main__":
    unittest.main()
