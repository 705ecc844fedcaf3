"""Points 91 to 95, and 8 and 9 of them: timetables, what bars them, and the deeds that keep them."""

import random
import unittest

from onestaff.errors import NoRun, NoRuns, NoState, NoTrip, StaffError
from onestaff.lines import Line
from onestaff.stands import Stand
from onestaff.times import deeds_by, is_bar, looked
from tests.days import everything
from tests.stands import chance_stand
from tests.things import any_things, refused

# a - b: 0, tickets; b - c: 1, the staff alone; c - d: 2, tickets.
PLACES = [("a", 2), ("b", 3), ("c", 1), ("d", 2)]
STRETCHES = [("ticket", 0), ("staff", 1), ("ticket", 0)]
CALLS = (looked, lambda stand, runs: is_bar(stand, runs, None), deeds_by)


def four_stand(trains=(("x", "a"), ("y", "a"), ("z", "b")), ends=("a", "b", "c")):
    return Stand(Line(PLACES, STRETCHES), trains, ends)


def runs_in(text):
    """Runs from a text like "x a b 0 5; y a b 5 9"."""
    rows = [row.split() for row in text.split(";") if row.strip()]
    return [(train, start, to, int(leave), int(arrive)) for train, start, to, leave, arrive in rows]


def looked_at(text, trains=None, ends=("a", "b", "c")):
    stand = four_stand(ends=ends) if trains is None else four_stand(trains, ends)
    return looked(stand, runs_in(text))


class Runs(unittest.TestCase):
    """Points 91 and 92."""

    def refused(self, error, field, thing, runs, stand=None):
        for call in CALLS:
            refused(self, error, field, thing, call, stand or four_stand(), runs)

    def test_no_runs(self):
        self.assertEqual(looked(four_stand(), []), ("kept", []))
        self.assertEqual(looked(four_stand(), ()), ("kept", []))
        self.assertEqual(deeds_by(four_stand(), []), [])
        self.assertIs(is_bar(four_stand(), [], ("kept", [])), False)

    def to_and_fro(self, many):
        ways = [("a", "b"), ("b", "a")]
        return [("x",) + ways[n & 1] + (10 * n, 10 * n + 5) for n in range(many)]

    def test_twenty_four_and_twenty_five(self):
        self.assertEqual(looked(four_stand(), self.to_and_fro(24)), ("kept", ["staff"] * 24))
        self.assertEqual(looked(four_stand(), tuple(self.to_and_fro(24))), ("kept", ["staff"] * 24))
        runs = self.to_and_fro(25)
        self.refused(NoRuns, "found", runs, runs)
        wrong = [None] * 25
        self.refused(NoRuns, "found", wrong, wrong)

    def test_no_list(self):
        for thing in any_things() + ["ab", {0: ("x", "a", "b", 0, 5)}]:
            if not isinstance(thing, (list, tuple)):
                self.refused(NoRuns, "found", thing, thing)

    def test_no_run(self):
        good = ("x", "a", "b", 0, 5)
        wrong = [list(good), good[:4], good + (6,), ("w", "a", "b", 0, 5), ("a", "a", "b", 0, 5), "xabcd", (good,)]
        wrong += [("x", "e", "b", 0, 5), ("x", "a", "e", 0, 5), ("x", "a", "c", 0, 5), ("x", "a", "a", 0, 5)]
        wrong += [("x", "a", "b", -1, 5), ("x", "a", "b", 5, 5), ("x", "a", "b", 6, 5), ("x", "a", "b", 0, 10000)]
        wrong += [("x", "a", "b", False, 5), ("x", "a", "b", 0, True), ("x", "a", "b", "0", 5)]
        wrong += [("x", "a", "b", 0, None)]
        wrong += [("x", "a", "b", 10000, 10001), ("x", "a", "b", 9999, 10000), ("x", "a", "b", 9999, 9999)]
        for thing in any_things() + wrong:
            self.refused(NoRun, "found", thing, [thing])
            self.refused(NoRun, "found", thing, [good, thing, None])

    def test_any_thing_as_each_part(self):
        good = ("x", "a", "b", 0, 5)
        for part in range(5):
            for thing in any_things():
                run = good[:part] + (thing,) + good[part + 1:]
                if part == 4 and thing in (10, 300) and thing is not True:
                    self.assertEqual(looked(four_stand(), [run]), ("kept", ["staff"]))
                else:
                    self.refused(NoRun, "found", run, [run])

    def test_times_at_their_bounds(self):
        for leave, arrive in ((0, 1), (0, 9999), (9998, 9999)):
            self.assertEqual(looked(four_stand(), [("x", "a", "b", leave, arrive)]), ("kept", ["staff"]))

    def test_run_by_run(self):
        first, second = ("x", "a", "b", 5, 5), ("w", "a", "b", 0, 5)
        self.refused(NoRun, "found", first, [first, second])
        self.refused(NoRun, "found", second, [("z", "a", "b", 0, 5), second])

    def trip(self, run, text):
        for call in CALLS:
            with self.assertRaises(NoTrip) as caught:
                call(four_stand(), runs_in(text))
            self.assertEqual((caught.exception.run, type(caught.exception.run)), (run, int))

    def test_a_run_that_does_not_begin_where_the_train_is(self):
        self.trip(0, "x b c 0 5")
        self.trip(0, "z a b 0 5; x a b 0 5")
        self.trip(1, "x a b 0 5; x a b 5 9")
        self.trip(1, "x a b 0 5; x c d 6 9")
        self.trip(2, "x a b 0 5; x b a 5 9; x b c 9 10")

    def test_a_run_that_leaves_ahead_of_the_arrival(self):
        self.trip(1, "x a b 0 5; x b c 4 9")
        self.trip(1, "x a b 0 5; x b c 0 9")
        self.trip(0, "x b c 4 9; x a b 0 5")
        self.assertEqual(looked_at("x a b 0 5; x b c 5 9"), ("kept", ["staff", "staff"]))
        self.assertEqual(looked_at("x b c 5 9; x a b 0 5"), ("kept", ["staff", "staff"]))

    def test_the_first_in_the_order(self):
        self.trip(1, "x b c 5 9; y b c 4 9")
        self.trip(0, "x b c 5 9; y b c 5 9")
        self.trip(1, "x b c 5 9; z c d 1 2; y b c 4 9")
        # Of one train two that leave at one time go by their numbers.
        self.trip(1, "x a b 0 5; x b a 0 3")
        self.trip(0, "x b a 0 3; x a b 0 5")

    def test_runs_ahead_of_trips(self):
        self.refused(NoRun, "found", None, [("x", "b", "c", 0, 5), None])

    def test_what_is_handed_in_stays(self):
        runs = runs_in("x b c 5 9; x a b 0 5")
        for call in CALLS:
            call(four_stand(), runs)
        self.assertEqual(runs, runs_in("x b c 5 9; x a b 0 5"))


class Kept(unittest.TestCase):
    """Point 93, of runs that are kept."""

    def test_tickets_where_the_next_one_goes_the_same_way(self):
        self.assertEqual(looked_at("x a b 0 5; y a b 5 9"), ("kept", ["ticket", "staff"]))
        self.assertEqual(looked_at("y a b 5 9; x a b 0 5"), ("kept", ["staff", "ticket"]))
        self.assertEqual(looked_at("x a b 0 5; x b a 6 7; y a b 8 9"), ("kept", ["staff"] * 3))
        text = "x a b 0 5; y a b 5 6; y b a 6 7; x b a 7 8"
        self.assertEqual(looked_at(text), ("kept", ["ticket", "staff", "ticket", "staff"]))

    def test_of_those_through_the_same_stretch(self):
        told = looked_at("x a b 0 5; z b c 1 2; y a b 6 7", ends=("a", "b", "c"))
        self.assertEqual(told, ("kept", ["ticket", "staff", "staff"]))

    def test_the_list_is_the_askers_own(self):
        stand, runs = four_stand(), runs_in("x a b 0 5; y a b 5 9")
        looked(stand, runs)[1].clear()
        self.assertEqual(looked(stand, runs), ("kept", ["ticket", "staff"]))
        self.assertEqual((type(looked(stand, runs)), type(looked(stand, runs)[1])), (tuple, list))
        deeds_by(stand, runs).clear()
        self.assertEqual(len(deeds_by(stand, runs)), 5)


class Bars(unittest.TestCase):
    """Points 93 and 94."""

    def test_the_staff_lies_at_the_wrong_end(self):
        self.assertEqual(looked_at("x a b 0 5", ends=("b", "b", "c")), ("wrong", 0, 0))
        self.assertEqual(looked_at("z b c 0 5", ends=("a", "c", "c")), ("wrong", 1, 0))
        self.assertEqual(looked_at("z b a 3 4; x a b 0 2"), ("kept", ["staff", "staff"]))
        self.assertEqual(looked_at("z b a 3 4; x a b 5 6"), ("wrong", 0, 0))
        # Just of the first one through the stretch, in the order.
        self.assertEqual(looked_at("z b a 5 6; x a b 0 2; x b a 2 4", ends=("b", "b", "c")), ("wrong", 0, 1))

    def test_two_meet(self):
        self.assertEqual(looked_at("x a b 0 5; z b a 4 9"), ("meet", 0, 0, 1))
        self.assertEqual(looked_at("z b a 4 9; x a b 0 5"), ("meet", 0, 1, 0))
        self.assertEqual(looked_at("x a b 0 5; z b a 5 9"), ("kept", ["staff", "staff"]))
        self.assertEqual(looked_at("x a b 0 5; y a b 4 9"), ("meet", 0, 0, 1))
        self.assertEqual(looked_at("x a b 0 5; y a b 0 4"), ("meet", 0, 0, 1))
        self.assertEqual(looked_at("x a b 0 5; z b a 0 9"), ("meet", 0, 0, 1))

    def test_just_of_two_straight_behind_each_other(self):
        stand, runs = four_stand(), runs_in("x a b 0 9; y a b 1 2; z b a 3 4")
        self.assertEqual(looked(stand, runs), ("meet", 0, 0, 1))
        self.assertIs(is_bar(stand, runs, ("meet", 0, 0, 2)), False)

    def test_two_follow(self):
        trains = [("x", "b"), ("y", "b"), ("z", "d")]
        self.assertEqual(looked_at("x b c 0 5; y b c 6 9", trains), ("follow", 1, 0, 1))
        self.assertEqual(looked_at("y b c 6 9; x b c 0 5", trains), ("follow", 1, 1, 0))
        self.assertEqual(looked_at("x b c 0 5; x c b 6 9", trains), ("kept", ["staff", "staff"]))
        self.assertEqual(looked_at("x b c 0 5; y b c 4 9", trains), ("meet", 1, 0, 1))
        self.assertEqual(looked_at("x b c 0 5; x c d 5 6; y b c 6 9; z d c 9 10", trains), ("follow", 1, 0, 2))

    def test_full(self):
        self.assertEqual(looked_at("z b c 0 5", [("x", "c"), ("z", "b")]), ("full", "c", 0))
        text = "z b c 0 5; x c d {} 9"
        for leave, told in ((4, ("kept", ["staff"] * 2)), (5, ("full", "c", 0)), (6, ("full", "c", 0))):
            self.assertEqual(looked_at(text.format(leave), [("x", "c"), ("z", "b")]), told)

    def test_full_by_one_that_came(self):
        trains = [("x", "d"), ("z", "b")]
        text = "z b c 0 {}; x d c 0 {}"
        for of_z, of_x, told in ((5, 6, ("full", "c", 1)), (6, 5, ("full", "c", 0)), (5, 5, ("full", "c", 1))):
            self.assertEqual(looked_at(text.format(of_z, of_x), trains, ("a", "b", "d")), told)
        self.assertEqual(looked_at("x d c 0 5; z b c 0 5", trains, ("a", "b", "d")), ("full", "c", 1))

    def test_full_by_one_that_came_back(self):
        trains = [("x", "c"), ("z", "b")]
        self.assertEqual(looked_at("x c d 0 1; x d c 2 {}; z b c 0 5".format(5), trains), ("full", "c", 2))
        self.assertEqual(looked_at("x c d 0 1; z b c 0 5; x d c 2 5", trains), ("full", "c", 2))
        self.assertEqual(looked_at("x c d 0 1; z b c 0 5; z c b 5 6; x d c 2 6", trains), ("kept", ["staff"] * 4))
        self.assertEqual(looked_at("x c d 0 1; x d c 2 3; x c d 3 6; z b c 0 5", trains), ("kept", ["staff"] * 4))

    def test_full_with_more_roads(self):
        trains = [("x", "c"), ("y", "d"), ("z", "d")]
        self.assertEqual(looked_at("x c d 0 5", trains), ("full", "d", 0))
        self.assertEqual(looked_at("x c d 0 5", trains[:2]), ("kept", ["staff"]))

    def test_the_first_bar(self):
        trains = [("x", "b"), ("y", "b"), ("z", "c"), ("w", "d")]
        runs = "x b c 0 5; y b c 4 9; w d c 0 1"
        stand = four_stand(trains, ("a", "c", "c"))
        told = [("wrong", 1, 0), ("meet", 1, 0, 1), ("follow", 1, 0, 1), ("wrong", 2, 2)]
        told += [("full", "c", 2), ("full", "c", 0), ("full", "c", 1)]
        self.assertEqual(looked(stand, runs_in(runs)), told[0])
        for bar in told:
            self.assertIs(is_bar(stand, runs_in(runs), bar), True, bar)
        self.assertEqual(looked_at(runs, trains), ("meet", 1, 0, 1))
        self.assertEqual(looked_at(runs.replace("4 9", "5 9"), trains), ("follow", 1, 0, 1))
        self.assertEqual(looked_at("x b c 0 5; w d c 0 1", trains), ("wrong", 2, 1))
        self.assertEqual(looked_at("x b c 0 5; w d c 0 1", trains, ("a", "b", "d")), ("full", "c", 1))
        self.assertEqual(looked_at("x b c 0 5; w d c 0 5", trains, ("a", "b", "d")), ("full", "c", 0))
        self.assertEqual(looked_at("w d c 0 5; x b c 0 5", trains, ("a", "b", "d")), ("full", "c", 0))

    def test_full_bars_go_behind_all_stretches(self):
        trains = [("x", "b"), ("z", "c"), ("w", "d")]
        self.assertEqual(looked_at("x b c 0 1; w d c 8 9", trains), ("wrong", 2, 1))

    def test_any_thing_is_no_bar(self):
        stand = four_stand(ends=("b", "c", "c"))
        runs = runs_in("x a b 0 5; z b a 4 9; y a b 9 10")
        bar = looked(stand, runs)
        self.assertEqual(bar, ("wrong", 0, 0))
        wrong = [list(bar), bar[:2], bar + (0,), (bar,), ("wrong", False, 0), ("wrong", 0, False), ("wrong", "0", 0)]
        wrong += [("wrong", 0, 1), ("wrong", 1, 0), ("wrong", 0, 3), ("wrong", 0, -1), ("wrong", 7, 0), "wrong"]
        wrong += [("meet", 0, 1, 0), ("meet", 0, 1, 2), ("meet", 1, 0, 1), ("meet", False, 0, 1), ("meet", 0, 0, True)]
        wrong += [("follow", 0, 0, 1), ("full", "b", 0), ("full", 0, 0), ("full", "e", 0), ("kept", []), (0, 0), ()]
        for thing in any_things() + wrong:
            self.assertIs(is_bar(stand, runs, thing), False, thing)
        self.assertIs(is_bar(stand, runs, bar), True)
        self.assertIs(is_bar(stand, runs, ("meet", 0, 0, 1)), True)

    def test_a_full_bar_of_other_numbers(self):
        trains = [("x", "c"), ("z", "b"), ("w", "a")]
        stand, runs = four_stand(trains), runs_in("w a b 0 1; z b c 0 5")
        self.assertEqual(looked(stand, runs), ("full", "c", 1))
        for thing in (("full", "c", 0), ("full", "b", 1), ("full", "c", True), ("full", "c", 2), ("full", "c", -1)):
            self.assertIs(is_bar(stand, runs, thing), False)

    def test_of_runs_that_are_kept_there_is_none(self):
        stand, runs = four_stand(), runs_in("x a b 0 5; y a b 5 9")
        for thing in [("meet", 0, 0, 1), ("follow", 0, 0, 1), ("wrong", 0, 0), ("full", "b", 1), ("kept", ["ticket"])]:
            self.assertIs(is_bar(stand, runs, thing), False)


def chance_runs(stand, chance, most=8):
    """Runs of which each begins where its train is; short times, so that much comes together."""
    line = stand.line()
    names = line.names()
    places = {train: stand.place_of(train) for train in stand.trains()}
    free = {train: chance.randint(0, 4) for train in places}
    runs = []
    for _ in range(chance.randint(0, most)):
        train = chance.choice(stand.trains())
        at = names.index(places[train])
        to = names[chance.choice([near for near in (at - 1, at + 1) if 0 <= near < len(names)])]
        leave = free[train] + chance.choice([0, 0, 1, 2, 6])
        arrive = leave + chance.randint(1, 4)
        runs.append((train, places[train], to, leave, arrive))
        places[train], free[train] = to, arrive
    chance.shuffle(runs)
    return runs


def kept_runs(stand, chance):
    """Runs that are kept, by adding run behind run and leaving out what there is a bar for."""
    names = stand.line().names()
    places = {train: stand.place_of(train) for train in stand.trains()}
    free = {train: 0 for train in places}
    runs = []
    for now in range(60):
        train = chance.choice(stand.trains())
        at = names.index(places[train])
        to = names[chance.choice([near for near in (at - 1, at + 1) if 0 <= near < len(names)])]
        leave = max(free[train], now)
        run = (train, places[train], to, leave, leave + chance.randint(1, 3))
        if len(runs) < 24 and looked(stand, runs + [run])[0] == "kept":
            runs.append(run)
            places[train], free[train] = to, run[4]
    return runs


def all_bars(stand, runs):
    """Point 93, straight by its words."""
    line = stand.line()
    order = sorted(range(len(runs)), key=lambda n: (runs[n][3], n))
    told = []
    for k in range(line.many_stretches()):
        through = [n for n in order if set(runs[n][1:3]) == set(line.ends(k))]
        for spot, n in enumerate(through):
            if spot == 0:
                told += [("wrong", k, n)] if runs[n][1] != stand.staff_at(k) else []
                continue
            one = through[spot - 1]
            told += [("meet", k, one, n)] if runs[n][3] < runs[one][4] else []
            told += [("follow", k, one, n)] if runs[n][1] == runs[one][1] and line.kind(k) == "staff" else []
    arrivals = sorted(range(len(runs)), key=lambda n: (runs[n][4], n))
    for spot, n in enumerate(arrivals):
        place, time = runs[n][2], runs[n][4]
        there = []
        for train in stand.trains():
            came = [-1] if stand.place_of(train) == place else []
            came += [runs[m][4] for m in arrivals[:spot] if runs[m][0] == train and runs[m][2] == place]
            left = [run[3] for run in runs if run[0] == train and run[1] == place and run[3] < time]
            if len(came) > len(left):
                there.append(train)
        if len(there) >= line.roads(place):
            told.append(("full", place, n))
    return told


class ByChance(unittest.TestCase):
    """Points 8, 93, 94 and 95."""

    def test_against_the_words(self):
        seen = set()
        for seed in range(400):
            chance = random.Random(seed)
            stand = chance_stand(chance)
            runs = chance_runs(stand, chance)
            bars = all_bars(stand, runs)
            told = looked(stand, runs)
            seen.add(told[0])
            if bars:
                self.assertEqual(told, bars[0])
            else:
                self.assertEqual(told[0], "kept")
            for bar in bars + self.chance_bars(stand, runs, chance):
                self.assertIs(is_bar(stand, runs, bar), bar in bars)
        self.assertEqual(seen, {"kept", "wrong", "meet", "follow", "full"})

    def chance_bars(self, stand, runs, chance):
        numbers, places = range(len(runs) + 1), stand.line().names()
        told = []
        for _ in range(10):
            k, one, other = chance.randint(0, 5), chance.choice(numbers), chance.choice(numbers)
            told += [("wrong", k, one), ("meet", k, one, other), ("follow", k, one, other)]
            told.append(("full", chance.choice(places), one))
        return told

    def test_a_day_does_what_is_kept(self):
        many = {"ticket": 0, "staff": 0}
        for seed in range(150):
            chance = random.Random(seed)
            stand = chance_stand(chance)
            runs = kept_runs(stand, chance)
            told = looked(stand, runs)
            self.assertEqual(told[0], "kept")
            for thing in told[1]:
                many[thing] += 1
            self.assert_done(stand, runs, told[1])
        self.assertGreater(min(many.values()), 40)

    def assert_done(self, stand, runs, things):
        day = stand.start()
        rows = deeds_by(stand, runs)
        for time, deed in rows:
            day.do(deed)
        self.assertEqual([time for time, _ in rows], sorted(time for time, _ in rows))
        leaves = sorted((r[3], ("leave", r[0], r[2], things[n])) for n, r in enumerate(runs))
        comes = sorted((r[4], ("come", r[0])) for r in runs)
        self.assertEqual(sorted(row for row in rows if row[1][0] == "leave"), leaves)
        self.assertEqual(sorted(row for row in rows if row[1][0] == "come"), comes)
        self.assertEqual(day.words(), [])
        for train in stand.trains():
            ways = [run[2] for run in sorted(runs, key=lambda run: run[3]) if run[0] == train]
            self.assertEqual(day.where(train), ("at", (ways or [stand.place_of(train)])[-1]))

    def test_what_is_barred_no_day_does(self):
        """With all things by which the runs could go, in the order of point 95."""
        barred = 0
        for seed in range(200):
            chance = random.Random(seed)
            stand = chance_stand(chance)
            runs = chance_runs(stand, chance, 4)
            kept = looked(stand, runs)[0] == "kept"
            barred += not kept
            self.assertEqual(kept, self.some_day_does(stand, runs))
        self.assertGreater(barred, 50)

    def some_day_does(self, stand, runs):
        for choice in range(2 ** len(runs)):
            things = [("staff", "ticket")[choice >> n & 1] for n in range(len(runs))]
            if self.day_does(stand, runs, things):
                return True
        return False

    def day_does(self, stand, runs, things):
        events = [(run[4], 0, n) for n, run in enumerate(runs)] + [(run[3], 1, n) for n, run in enumerate(runs)]
        day = stand.start()
        try:
            for _, leaves, n in sorted(events):
                day.do(("leave", runs[n][0], runs[n][2], things[n]) if leaves else ("come", runs[n][0]))
                for number, _ in day.words():
                    day.do(("get", number))
        except StaffError:
            return False
        return True


class Deeds(unittest.TestCase):
    """Point 95."""

    def test_all_of_them(self):
        runs = runs_in("x a b 0 5; y a b 5 9; z b c 5 9; z c d 9 12; y b a 9 12")
        self.assertEqual(deeds_by(four_stand(), runs), [
            (0, ("leave", "x", "b", "ticket")),
            (5, ("come", "x")), (5, ("get", 0)),
            (5, ("leave", "y", "b", "staff")), (5, ("leave", "z", "c", "staff")),
            (9, ("come", "y")), (9, ("come", "z")),
            (9, ("leave", "z", "d", "staff")), (9, ("leave", "y", "a", "staff")),
            (12, ("come", "z")), (12, ("come", "y")),
        ])

    def test_of_one_time_by_their_numbers(self):
        runs = runs_in("z b c 0 5; x a b 0 5; y a b 5 6")
        self.assertEqual(deeds_by(four_stand(), runs)[:5], [
            (0, ("leave", "z", "c", "staff")), (0, ("leave", "x", "b", "ticket")),
            (5, ("come", "z")), (5, ("come", "x")), (5, ("get", 0)),
        ])
        runs = [runs[1], runs[0], runs[2]]
        self.assertEqual(deeds_by(four_stand(), runs)[:5], [
            (0, ("leave", "x", "b", "ticket")), (0, ("leave", "z", "c", "staff")),
            (5, ("come", "x")), (5, ("get", 0)), (5, ("come", "z")),
        ])

    def test_words_have_numbers_of_the_whole_day(self):
        runs = runs_in("x a b 0 5; y a b 5 9; y b a 9 10; x b a 10 11")
        gets = [(time, deed) for time, deed in deeds_by(four_stand(), runs) if deed[0] == "get"]
        self.assertEqual(gets, [(5, ("get", 0)), (10, ("get", 1))])

    def test_kinds(self):
        rows = deeds_by(four_stand(), runs_in("x a b 0 5"))
        self.assertIs(type(rows), list)
        self.assertEqual({type(row) for row in rows} | {type(row[1]) for row in rows}, {tuple})

    def test_runs_that_are_not_kept(self):
        for text in ("x a b 0 5; z b a 4 9", "z b a 0 5", "z b c 0 1; x a b 0 5; x b c 5 6"):
            with self.assertRaises(NoState) as caught:
                deeds_by(four_stand(), runs_in(text))
            self.assertEqual(caught.exception.found, looked_at(text))
            self.assertIn(caught.exception.found[0], ("meet", "wrong", "follow"))

    def test_the_stand_and_its_day_stay(self):
        stand = four_stand()
        before = everything(stand.start()), stand.state()
        deeds_by(stand, runs_in("x a b 0 5"))
        self.assertEqual((everything(stand.start()), stand.state()), before)


class OtherWays(unittest.TestCase):
    """Point 9: with other names, and the other way round, all is likewise; trains that never move take up roads."""

    NEW = {"a": "f", "b": "e", "c": "x", "d": "q", "e": "at", "f": "long", "x": "y", "y": "in", "z": "b"}

    def test_with_other_names(self):
        new = self.NEW
        for seed in range(100):
            chance = random.Random(seed)
            stand = chance_stand(chance)
            runs = chance_runs(stand, chance)
            line = stand.line().renamed({name: new[name] for name in stand.line().names()})
            trains = [(new[train], new[place]) for train, place in zip(stand.trains(), stand.state()[0])]
            other = Stand(line, trains, [new[place] for place in stand.state()[1]])
            renamed = [(new[train], new[start], new[to], leave, arrive) for train, start, to, leave, arrive in runs]
            told = looked(stand, runs)
            if told[0] == "full":
                told = ("full", new[told[1]], told[2])
            self.assertEqual(looked(other, renamed), told)

    def test_the_other_way_round(self):
        for seed in range(100):
            chance = random.Random(seed)
            stand = chance_stand(chance)
            runs = chance_runs(stand, chance)
            top = stand.line().many_stretches() - 1
            other = Stand(stand.line().mirrored(), list(zip(stand.trains(), stand.state()[0])), stand.state()[1][::-1])
            turned = [bar if bar[0] == "full" else (bar[0], top - bar[1]) + bar[2:] for bar in all_bars(stand, runs)]
            if turned:
                for bar in turned:
                    self.assertIs(is_bar(other, runs, bar), True)
                self.assertIn(looked(other, runs), turned)
            else:
                self.assertEqual(looked(other, runs), looked(stand, runs))

    def test_a_train_that_never_moves(self):
        for seed in range(100):
            chance = random.Random(seed)
            stand = chance_stand(chance, 3)
            runs = chance_runs(stand, chance)
            places, stretches, longs = stand.line().told()
            for place in [name for name, roads in places if roads < 3]:
                wide = Line([(name, roads + (name == place)) for name, roads in places], stretches, longs)
                trains = list(zip(stand.trains(), stand.state()[0])) + [("w", place)]
                self.assertEqual(looked(Stand(wide, trains, stand.state()[1]), runs), looked(stand, runs))


if __name__ == "__main__":
    unittest.main()
