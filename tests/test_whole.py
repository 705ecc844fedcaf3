"""Points 6, 7 and 9: what holds behind every row of deeds."""

import random
import unittest

from onestaff.books import books_of, day_by
from onestaff.days import Day
from onestaff.errors import StaffError
from onestaff.lines import Line
from tests.days import answers
from tests.walks import chance_day, chance_deed, chance_line, lock_for_long


def wrong_deed(day, chance):
    """A deed of parts that there are, most often refused."""
    line = day.line()
    train, other = chance.choice(day.trains()), chance.choice(day.trains())
    place, to = chance.choice(line.names()), chance.choice(line.names())
    k = chance.randrange(line.many_stretches())
    thing = chance.choice(["staff", "ticket", "pilot", "long"])
    kind = chance.choice(["through", "lock", "open"])
    return chance.choice([
        ("leave", train, to, thing), ("come", train), ("walk", train, place), ("help", other, train),
        ("bring", train, place), ("lock", place, k, to), ("pilot", place, k), ("unlock", place, k), ("give", place, k),
        ("take", place, 0), ("box", place, 0), ("again", place, kind, k), ("get", k), ("lose", k),
    ])


def steps(day, chance, many):
    """Deeds by chance, between them some that are refused; yields behind each of them."""
    if chance.random() < 0.6:
        lock_for_long(day, chance)
    for _ in range(many):
        for _ in range(3):
            try:
                day.do(wrong_deed(day, chance))
            except StaffError:
                pass
            yield
        deed = chance_deed(day, chance)
        if deed is not None:
            day.do(deed)
        yield


def ends_of(day, spot):
    """The numbers of the stretches between the places from and to of a train's spot, and its thing's number."""
    line = day.line()
    low, high = sorted(line.number_of(place) for place in spot[1:3])
    number = line.long_between(spot[1], spot[2]) if spot[3] == "long" else low
    return range(low, high), number


class Stretches(unittest.TestCase):
    """Point 6."""

    def test_whatever_is_done(self):
        seen = set()
        for seed in range(100):
            chance = random.Random(seed)
            day = chance_day(chance)
            for _ in steps(day, chance, 50):
                self.assert_holds(day)
            seen.update(deed[0] for deed in day.deeds())
        self.assertEqual(len(seen), 14)

    def assert_holds(self, day):
        for k in range(day.line().many_stretches()):
            self.assert_one_group(day, k)
            self.assert_staff(day, k)
        for j in range(day.line().many_longs()):
            self.assert_long(day, j)
        for train in day.trains():
            self.assert_thing(day, train)
        self.assert_rights(day)

    def assert_one_group(self, day, k):
        inside = day.inside(k)
        if len(inside) > 1:
            helped = [train for train in inside if day.where(train)[0] == "helped"]
            self.assertEqual(len(inside), 2)
            self.assertEqual(len(helped), 1)
            helper = day.where(helped[0])[4]
            self.assertIn(helper, inside)
            self.assertEqual(day.where(helper)[2], helped[0])

    def assert_staff(self, day, k):
        spot = day.staff(k)
        if spot[0] != "with":
            self.assertIn(spot[1], day.line().ends(k))
        if day.pilot(k) is not None:
            self.assertEqual(spot[0], "locked")

    def assert_long(self, day, j):
        spot = day.long_staff(j)
        if spot[0] != "with":
            self.assertIn(spot[1], day.line().long_ends(j))
        if spot[0] != "box":
            self.assertEqual({day.staff(k)[0] for k in day.line().long_stretches(j)}, {"locked"})

    def assert_thing(self, day, train):
        """The thing of a train in a stretch is with it, or lies held for it at an end."""
        spot = day.where(train)
        if spot[0] == "at":
            self.assertIn(train, day.at(spot[1]))
        if spot[0] not in ("in", "stopped", "helped"):
            return
        stretches, number = ends_of(day, spot)
        for k in stretches:
            self.assertIn(train, day.inside(k))
        if spot[3] == "long":
            thing = day.long_staff(number)
        else:
            thing = day.pilot(number) if spot[3] == "pilot" else day.staff(number)
        if spot[0] == "stopped":
            self.assertEqual((thing[0], thing[2]), ("held", train))
            self.assertIn(thing[1], spot[1:2] if spot[3] == "ticket" else spot[1:3])
        elif spot[0] == "in" and spot[3] == "ticket":
            self.assertEqual(thing, ("at", spot[1]))
        else:
            self.assertEqual(thing, ("with", train))

    def assert_rights(self, day):
        """Point 34, of a whole day: who has a right has that of the lock, which is not open."""
        for place in day.line().names():
            self.assertLessEqual(len(day.at(place)), day.line().roads(place))
            for k, number, locker in day.rights(place):
                self.assertEqual(day.lock_of(k), (number, (number, day.staff(k)[2]), False))
                self.assertEqual(day.staff(k)[:2], ("locked", locker))
                self.assertIsNone(day.pilot(k))

    def test_every_train_stands_at_one_place_or_none(self):
        for seed in range(30):
            chance = random.Random(seed)
            day = chance_day(chance)
            for _ in steps(day, chance, 40):
                standing = sorted(train for name in day.line().names() for train in day.at(name))
                self.assertEqual(standing, sorted(t for t in day.trains() if day.where(t)[0] == "at"))

    def test_a_helped_train_comes_out_at_an_end_and_the_stretch_is_free_then(self):
        seen = 0
        for seed in range(25):
            chance = random.Random(seed)
            day = chance_day(chance)
            for _ in steps(day, chance, 40):
                for deed in [deed for deed in day.may() if deed[0] == "bring"]:
                    self.assert_frees(day, *deed[1:])
                    seen += 1
        self.assertGreater(seen, 20)

    def assert_frees(self, day, train, place):
        spot = day.where(train)
        stretches, _ = ends_of(day, spot)
        for k in stretches:
            self.assertEqual(set(day.inside(k)), {train, spot[4]})
        twin = day.twin()
        twin.do(("bring", train, place))
        self.assertEqual(twin.at(place)[-2:], [train, spot[4]])
        self.assertEqual([twin.inside(k) for k in stretches], [[]] * len(stretches))


class Books(unittest.TestCase):
    """Point 7: the books of all places tell where everything is."""

    def test_at_any_time(self):
        for seed in range(25):
            chance = random.Random(seed)
            day = chance_day(chance)
            trains = [(train, day.where(train)[1]) for train in day.trains()]
            ends = [day.staff(k)[1] for k in range(day.line().many_stretches())]
            for _ in range(25):
                deed = chance_deed(day, chance)
                if deed is None:
                    break
                day.do(deed)
                again = day_by(day.line(), trains, ends, books_of(day))
                told, found = answers(day), answers(again)
                told.pop("words")
                found.pop("words")
                self.assertEqual(found, told)


OWN = {name: name for name in ["a", "b", "c", "d", "e", "f", "x", "y", "z", "q", "at", "long", "in"]}


class Other:
    """How names, stretches and long ones are called on another day."""

    def __init__(self, names, stretch, long):
        self.names, self.stretch, self.long = names, stretch, long

    def spot(self, spot):
        """The words of spots and things stay, whatever the trains and places are called."""
        if spot is None:
            return None
        thing = 3 if spot[0] in ("in", "stopped", "helped") else None
        return tuple(part if n in (0, thing) else self.names[part] for n, part in enumerate(spot))

    def word(self, word):
        giver, to, kind, k, number = word
        return self.names[giver], self.names[to], kind, self.stretch(k), number

    def deed(self, deed):
        """Of all but words under way, which have other numbers where a box told its rights in another order."""
        turn = self.long if deed[0] in ("take", "box") else self.stretch
        keep = {"leave": 3, "again": 2}.get(deed[0])
        told = []
        for spot, part in enumerate(deed):
            if spot in (0, keep):
                told.append(part)
            else:
                told.append(turn(part) if isinstance(part, int) else self.names[part])
        return tuple(told)


class OtherWays(unittest.TestCase):
    """Point 9: with other names, and the other way round, all is likewise."""

    def test_with_other_names(self):
        new = {"a": "f", "b": "e", "c": "x", "d": "q", "e": "at", "f": "long", "x": "y", "y": "in", "z": "b"}
        for seed in range(40):
            chance = random.Random(seed)
            day = chance_day(chance)
            other = Day(
                day.line().renamed({name: new[name] for name in day.line().names()}),
                [(new[train], new[day.where(train)[1]]) for train in day.trains()],
                [new[day.staff(k)[1]] for k in range(day.line().many_stretches())],
            )
            self.go(day, other, Other(new, lambda k: k, lambda j: j), chance)

    def test_the_other_way_round(self):
        same = {name: name for name in "abcdefxyz"}
        for seed in range(40):
            chance = random.Random(seed)
            day = chance_day(chance)
            top, last = day.line().many_stretches() - 1, day.line().many_longs() - 1
            other = Day(
                day.line().mirrored(), [(train, day.where(train)[1]) for train in day.trains()],
                [day.staff(k)[1] for k in range(top, -1, -1)],
            )
            self.go(day, other, Other(same, lambda k: top - k, lambda j: last - j), chance)

    def go(self, day, other, ways, chance):
        first = day.twin()
        lock_for_long(first, chance)
        for deed in first.deeds():
            self.both(day, other, ways, deed)
        for _ in range(40):
            self.assert_alike_refused(day, other, ways, wrong_deed(day, chance))
            deed = chance_deed(day, chance)
            if deed is None:
                break
            self.both(day, other, ways, deed)

    def both(self, day, other, ways, deed):
        self.assertEqual(self.likewise(day, ways), self.likewise(other, Other(OWN, int, int)))
        self.assertEqual(other.do(self.other_deed(day, other, ways, deed)), day.do(deed))
        self.assert_alike(day, other, ways)

    def other_deed(self, day, other, ways, deed):
        if deed[0] not in ("get", "lose"):
            return ways.deed(deed)
        words = dict(day.words())
        if deed[1] not in words:
            return deed[0], 999
        return deed[0], [number for number, word in other.words() if word == ways.word(words[deed[1]])][0]

    def likewise(self, day, ways):
        """What may be done, words under way told by themselves."""
        words = dict(day.words())
        deeds = day.may()
        told = [repr(ways.deed(deed)) for deed in deeds if deed[0] not in ("get", "lose")]
        told += [repr((deed[0], ways.word(words[deed[1]]))) for deed in deeds if deed[0] in ("get", "lose")]
        return sorted(told)

    def assert_alike_refused(self, day, other, ways, wrong):
        errors = []
        for twin, deed in ((day.twin(), wrong), (other.twin(), self.other_deed(day, other, ways, wrong))):
            try:
                twin.do(deed)
                errors.append(None)
            except StaffError as refusal:
                errors.append(type(refusal))
        self.assertEqual(errors[0], errors[1], wrong)

    def assert_alike(self, day, other, ways):
        line, names, stretch = day.line(), ways.names, ways.stretch
        for train in day.trains():
            self.assertEqual(other.where(names[train]), ways.spot(day.where(train)))
        for place in line.names():
            self.assertEqual(other.at(names[place]), [names[train] for train in day.at(place)])
            self.assertEqual(
                sorted(other.rights(names[place])),
                sorted((stretch(k), number, names[locker]) for k, number, locker in day.rights(place)),
            )
        for k in range(line.many_stretches()):
            self.assertEqual(other.staff(stretch(k)), ways.spot(day.staff(k)))
            self.assertEqual(other.pilot(stretch(k)), ways.spot(day.pilot(k)))
            self.assertEqual(other.lock_of(stretch(k))[0::2], day.lock_of(k)[0::2])
            self.assertEqual(other.inside(stretch(k)), [names[train] for train in day.inside(k)])
            for place in line.names():
                self.assertEqual(other.pending(names[place], stretch(k)), day.pending(place, k))
        for j in range(line.many_longs()):
            self.assertEqual(other.long_staff(ways.long(j)), ways.spot(day.long_staff(j)))
        self.assertEqual(sorted(word for _, word in other.words()), sorted(ways.word(word) for _, word in day.words()))


class StayingTrains(unittest.TestCase):
    """Point 9: trains that never move change nothing but the roads that they take up."""

    def test_one_road_less_instead(self):
        for seed in range(30):
            chance = random.Random(seed)
            line = chance_line(chance)
            wide = [name for name in line.names() if line.roads(name) > 1]
            if wide:
                place = chance.choice(wide)
                places, stretches, longs = line.told()
                narrow = Line([(name, roads - (name == place)) for name, roads in places], stretches, longs)
                train = ("x", chance.choice(line.names()))
                self.go(Day(line, [("w", place), train]), Day(narrow, [train]), chance)

    def go(self, beside, alone, chance):
        for _ in range(40):
            self.assertEqual([deed for deed in beside.may() if "w" not in deed], alone.may())
            deed = chance_deed(alone, chance)
            if deed is None:
                break
            self.assertEqual(beside.do(deed), alone.do(deed))
            self.assertEqual(beside.told()[2:], alone.told()[2:])
            self.assertEqual(beside.told()[0][1:], alone.told()[0])
            for place in alone.line().names():
                self.assertEqual([train for train in beside.at(place) if train != "w"], alone.at(place))


def touched(day, deed):
    """The trains, places and stretches of a deed."""
    line, word = day.line(), deed[0]
    trains, places, stretches = set(), set(), set()
    if word in ("leave", "come", "walk", "help", "bring"):
        trains.update(part for part in (deed[1:3] if word == "help" else deed[1:2]))
        for train in list(trains):
            spot = day.where(train)
            trains.update(spot[4:5])
            places.update(spot[1:3] if spot[0] != "at" else spot[1:2])
        places.update(deed[2:3] if word != "help" else [])
    elif word in ("get", "lose"):
        spoken = dict(day.words())[deed[1]]
        places.update(spoken[:2])
        stretches.add(spoken[3])
    elif word in ("take", "box"):
        places.update(line.names())
    else:
        places.add(deed[1])
        places.update(deed[3:4] if word == "lock" else [])
        if word == "again":
            places.update(line.names())
        else:
            stretches.add(deed[2])
            places.update(line.ends(deed[2]) if word != "lock" else [])
            places.update([right[2] for right in day.rights(deed[1]) if right[0] == deed[2]])
    numbers = sorted(line.number_of(place) for place in places)
    if trains and len(numbers) > 1:
        stretches.update(range(numbers[0], numbers[-1]))
    return trains, places, stretches


def without_numbers(day):
    words = sorted(word for _, word in day.words())
    books = [[deed for _, deed in day.book(name)] for name in day.line().names()]
    return day.told()[:6], words, day.told()[7:], books


class EitherOrder(unittest.TestCase):
    """Point 9: deeds that have nothing in common come to the same in either order."""

    def test_pairs_of_deeds(self):
        pairs = 0
        for seed in range(60):
            chance = random.Random(seed)
            day = chance_day(chance)
            lock_for_long(day, chance)
            for _ in range(25):
                deed = chance_deed(day, chance)
                if deed is None:
                    break
                pairs += self.try_pair(day, deed, chance.choice(day.may()))
                day.do(deed)
        self.assertGreater(pairs, 100)

    def try_pair(self, day, one, other):
        if any(mine & its for mine, its in zip(touched(day, one), touched(day, other))):
            return 0
        first, second = day.twin(), day.twin()
        for twin, deeds in ((first, (one, other)), (second, (other, one))):
            for deed in deeds:
                twin.do(deed)
        self.assertEqual(without_numbers(first), without_numbers(second))
        return 1


if __name__ == "__main__":
    unittest.main()
