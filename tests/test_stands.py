"""Points 81 to 84: stands, their moves, the stand of a day, and what hinders a train."""

import random
import unittest

from onestaff.days import Day
from onestaff.errors import Full, NoEnds, NoMove, NoName, NoPlace, NoState, NoStretch, NoTrain, NoTrains, NoWay
from onestaff.errors import StaffError, Twice
from onestaff.lines import Line
from onestaff.stands import Stand, stand_of, wrong
from tests.days import TAKE, TRAINS, day_behind, everything, full_day, full_line
from tests.stands import chance_stand, moves_told, stand_in
from tests.things import any_things, refused
from tests.walks import chance_day, walk


def full_stand(trains=None, ends=None):
    return Stand(full_line(), TRAINS if trains is None else trains, ends)


def told_by(stand):
    line, trains = stand.line(), stand.trains()
    staffs = [stand.staff_at(k) for k in range(line.many_stretches())]
    return line.told(), trains, [stand.place_of(train) for train in trains], staffs, stand.state(), stand.moves()


class Begun(unittest.TestCase):
    """Point 81."""

    def test_at_home(self):
        stand = full_stand()
        self.assertEqual(stand.line().told(), full_line().told())
        self.assertEqual(stand.trains(), ["x", "y", "z"])
        self.assertEqual([stand.place_of(train) for train in "xyz"], ["a", "a", "c"])
        self.assertEqual([stand.staff_at(k) for k in range(3)], ["a", "c", "c"])
        self.assertEqual(stand.state(), (("a", "a", "c"), ("a", "c", "c")))

    def test_with_ends(self):
        for ends in (["b", "b", "d"], ("b", "b", "d")):
            stand = full_stand((("y", "d"), ("x", "b")), ends)
            self.assertEqual(stand.trains(), ["y", "x"])
            self.assertEqual(stand.state(), (("d", "b"), ("b", "b", "d")))

    def test_kinds(self):
        stand = full_stand()
        self.assertIsInstance(stand.line(), Line)
        self.assertEqual([type(stand.trains()), type(stand.state()), type(stand.moves())], [list, tuple, list])
        self.assertEqual([type(part) for part in stand.state()], [tuple, tuple])
        self.assertEqual({type(move) for move in stand.moves()}, {tuple})

    def test_lists_are_the_askers_own(self):
        stand = full_stand()
        before = told_by(stand)
        for call in (stand.trains, stand.moves):
            call().clear()
            call().append("x")
        self.assertEqual(told_by(stand), before)

    def test_what_was_handed_in_is_changed_afterwards(self):
        trains, ends = list(TRAINS), ["b", "b", "d"]
        stand = full_stand(trains, ends)
        before = told_by(stand)
        trains[0] = ("x", "d")
        trains.pop()
        ends[1] = "c"
        self.assertEqual(told_by(stand), before)
        self.assertEqual(stand.start().where("x"), ("at", "a"))

    def test_what_is_handed_in_stays(self):
        trains, ends = list(TRAINS), ["b", "b", "d"]
        stand = full_stand(trains, ends)
        stand.moves()
        stand.start().do(("lock", "b", 0, "a"))
        self.assertEqual((trains, ends), (TRAINS, ["b", "b", "d"]))

    def test_the_day_that_begins_so(self):
        stand = full_stand(ends=["b", "b", "d"])
        day = stand.start()
        self.assertIsInstance(day, Day)
        self.assertEqual(everything(day), everything(full_day(ends=["b", "b", "d"])))
        day.do(("lock", "b", 0, "a"))
        self.assertEqual(everything(stand.start()), everything(full_day(ends=["b", "b", "d"])))

    def test_no_train(self):
        for thing in any_things() + ["a", "w", 0, ("x", "a")]:
            refused(self, NoTrain, "found", thing, full_stand().place_of, thing)

    def test_no_stretch(self):
        for thing in any_things() + [3, -1, "0"]:
            refused(self, NoStretch, "found", thing, full_stand().staff_at, thing)


class RefusedAsADay(unittest.TestCase):
    """Point 81."""

    def refused(self, error, thing, trains, ends=None):
        refused(self, error, "found", thing, Stand, full_line(), trains, ends)
        refused(self, error, "found", thing, Day, full_line(), trains, ends)

    def test_trains(self):
        for thing in any_things():
            if not (isinstance(thing, (list, tuple)) and 1 <= len(thing) <= 4):
                self.refused(NoTrains, thing, thing)
            if not (isinstance(thing, tuple) and len(thing) == 2):
                self.refused(NoTrains, thing, [("x", "a"), thing, None])
            self.refused(NoName, thing, [("x", "a"), (thing, "nowhere")])
            self.refused(NoPlace, thing, [("x", "a"), ("y", thing)])
        many = [(name, "b") for name in "vwxyz"]
        self.refused(NoTrains, many, many)
        self.refused(Twice, "x", [("x", "a"), ("y", "a"), ("x", "e")])
        self.refused(Full, "d", [("x", "d"), ("y", "d")])

    def test_ends(self):
        for thing in any_things():
            if thing is not None:
                self.refused(NoEnds, thing, TRAINS, thing)
        for ends in (["a"], ["c", "b", "c"], ["a", "b", "c", "d"], ["a", "b", None]):
            self.refused(NoEnds, ends, TRAINS, ends)

    def test_the_first_that_is_due(self):
        self.refused(NoName, "X", [("X", "e"), None], 7)
        self.refused(Full, "d", [("x", "d"), ("y", "d"), None], 7)
        self.refused(NoTrains, None, None, 7)


class Moves(unittest.TestCase):
    """Point 82."""

    def test_their_order(self):
        stand = full_stand([("z", "c"), ("x", "b"), ("y", "a")], ["a", "b", "c"])
        self.assertEqual(stand.moves(), [
            ("z", "d", "staff"), ("z", "d", "ticket"), ("x", "c", "staff"), ("y", "b", "staff"), ("y", "b", "ticket"),
        ])
        stand = full_stand([("x", "b")], ["b", "b", "c"])
        self.assertEqual(stand.moves(), [("x", "a", "staff"), ("x", "a", "ticket"), ("x", "c", "staff")])

    def test_none(self):
        self.assertEqual(full_stand([("x", "b")], ["a", "c", "c"]).moves(), [])
        self.assertEqual(full_stand([("x", "c"), ("y", "d")], ["a", "b", "c"]).moves(), [])

    def test_a_free_road(self):
        trains = [("x", "a"), ("u", "b"), ("v", "b"), ("w", "b")]
        self.assertEqual(full_stand(trains, ["a", "c", "c"]).moves(), [])
        self.assertEqual(full_stand(trains[:3], ["a", "c", "c"]).moves(), [("x", "b", "staff"), ("x", "b", "ticket")])

    def test_behind_a_move(self):
        stand = full_stand()
        before = told_by(stand)
        by_staff, by_ticket = stand.moved(("y", "b", "staff")), stand.moved(("y", "b", "ticket"))
        self.assertIsInstance(by_staff, Stand)
        self.assertEqual(by_staff.state(), (("a", "b", "c"), ("b", "c", "c")))
        self.assertEqual(by_ticket.state(), (("a", "b", "c"), ("a", "c", "c")))
        self.assertEqual((by_staff.trains(), by_staff.line().told()), (["x", "y", "z"], full_line().told()))
        self.assertEqual(told_by(stand), before)

    def test_no_move(self):
        stand = full_stand()
        moves = [("x", "b", "pilot"), ("x", "b", "long"), ("x", "a", "staff"), ("x", "c", "staff"), ("w", "b", "staff")]
        moves += [("x", "e", "staff"), ("z", "b", "ticket"), ("z", "a", "staff"), ("x", "b"), ("x", "b", "staff", 0)]
        moves += [["x", "b", "staff"], (("x", "b", "staff"),), ("x", "b", "staff", "staff"), ("b", "x", "staff")]
        before = told_by(stand)
        for thing in any_things() + moves:
            refused(self, NoMove, "found", thing, stand.moved, thing)
        self.assertEqual(told_by(stand), before)

    def test_a_move_of_another_trains_place(self):
        stand = full_stand()
        self.assertIn(("z", "d", "staff"), stand.moves())
        for move in (("x", "d", "staff"), ("z", "b", "ticket")):
            refused(self, NoMove, "found", move, stand.moved, move)

    def test_by_chance_by_the_words(self):
        for seed in range(150):
            stand = chance_stand(random.Random(seed))
            told = moves_told(stand.line(), stand.trains(), stand.state())
            self.assertEqual(stand.moves(), [move for move, _ in told])
            for move, behind in told:
                self.assertEqual(told_by(stand.moved(move)), told_by(stand_in(stand, behind)))

    def test_a_day_does_just_these(self):
        for seed in range(60):
            stand = chance_stand(random.Random(seed))
            for train in stand.trains():
                for to in stand.line().names():
                    for thing in ("staff", "ticket"):
                        state = self.state_by_day(stand, train, to, thing)
                        self.assertEqual((train, to, thing) in stand.moves(), state is not None)
                        if state is not None:
                            self.assertEqual(stand.moved((train, to, thing)).state(), state)

    def state_by_day(self, stand, train, to, thing):
        day = stand.start()
        try:
            day.do(("leave", train, to, thing))
            day.do(("come", train))
        except StaffError:
            return None
        if thing == "ticket":
            day.do(("get", 0))
        return stand_of(day).state()


class OfADay(unittest.TestCase):
    """Point 83."""

    def refused(self, day):
        before = everything(day)
        refused(self, NoState, "found", day, stand_of, day)
        self.assertEqual(everything(day), before)

    def test_a_new_day(self):
        stand = stand_of(full_day(ends=["b", "b", "d"]))
        self.assertIsInstance(stand, Stand)
        self.assertEqual(told_by(stand), told_by(full_stand(ends=["b", "b", "d"])))

    def test_behind_deeds(self):
        day = day_behind("leave x b ticket; come x; get 0; leave z b staff; come z")
        self.assertEqual(stand_of(day).state(), (("b", "a", "b"), ("a", "b", "c")))
        self.assertEqual(stand_of(day).trains(), ["x", "y", "z"])

    def test_the_stand_does_not_go_along_with_the_day(self):
        day = full_day()
        stand = stand_of(day)
        day.do(("leave", "x", "b", "staff"))
        self.assertEqual(told_by(stand), told_by(full_stand()))

    def test_of_the_day_that_a_stand_tells(self):
        for seed in range(40):
            stand = chance_stand(random.Random(seed))
            self.assertEqual(told_by(stand_of(stand.start())), told_by(stand))

    def test_a_train_that_does_not_stand(self):
        for thing in ("staff", "ticket"):
            self.refused(day_behind(f"leave x b {thing}"))
            self.refused(day_behind(f"leave x b {thing}; walk x a"))
            self.refused(day_behind(f"leave x b {thing}; walk x a; help y x"))
        self.refused(day_behind("lock a 0 a; pilot a 0; leave x b pilot"))
        self.refused(day_behind(TAKE + "; leave x c long", ends=["a", "b", "c"]))

    def test_a_locked_staff(self):
        self.refused(day_behind("lock a 0 b"))
        self.refused(day_behind("lock a 0 a"))
        self.refused(day_behind("lock a 0 a; give a 0"))
        self.assertEqual(stand_of(day_behind("lock a 0 a; give a 0; unlock a 0")).state(), full_stand().state())

    def test_a_count_that_is_not_clear(self):
        self.refused(day_behind("leave x b ticket; come x"))
        self.refused(day_behind("leave x b ticket; come x; lose 0"))
        day = day_behind("leave x b ticket; come x; lose 0; again b through 0; get 1")
        self.assertEqual(stand_of(day).state(), (("b", "a", "c"), ("a", "c", "c")))
        self.refused(day_behind("leave x b ticket; come x; get 0; leave y b ticket; come y"))

    def test_boxes_words_and_elder_rights_play_no_part(self):
        self.assertEqual(full_day().long_staff(0), ("box", "a"))
        text = "lock a 0 a; pilot a 0; unlock a 0; lock a 0 b; again a lock 0; get 0; give b 0; get 2; unlock a 0"
        day = day_behind(text)
        self.assertEqual(day.words(), [(1, ("a", "b", "lock", 0, 2))])
        self.assertEqual(stand_of(day).state(), full_stand().state())

    def test_a_pilots_or_a_long_staffs_day(self):
        self.refused(day_behind("lock a 0 a; pilot a 0"))
        self.refused(day_behind("lock a 0 b; get 0; pilot b 0"))
        self.refused(day_behind(TAKE, ends=["a", "b", "c"]))
        text = TAKE + "; box a 0; get 1; unlock a 0; unlock b 1"
        self.assertEqual(stand_of(day_behind(text, ends=["a", "b", "c"])).state(), (("a", "a", "c"), ("a", "b", "c")))

    def test_by_chance(self):
        seen = {True: 0, False: 0}
        for seed in range(60):
            chance = random.Random(seed)
            day = chance_day(chance)
            for _ in range(10):
                rests = self.rests(day)
                seen[rests] += 1
                if rests:
                    stand = stand_of(day)
                    places = tuple(day.where(train)[1] for train in day.trains())
                    staffs = tuple(day.staff(k)[1] for k in range(day.line().many_stretches()))
                    self.assertEqual(stand.state(), (places, staffs))
                else:
                    self.refused(day)
                walk(day, random.Random(seed), 2)
        self.assertGreater(min(seen.values()), 40)

    def rests(self, day):
        line = day.line()
        stretches = range(line.many_stretches())
        spots = [day.where(train) for train in day.trains()] + [day.staff(k) for k in stretches]
        pending = [day.pending(place, k) for place in line.names() for k in stretches]
        return {spot[0] for spot in spots} == {"at"} and set(pending) == {None}


class Wrong(unittest.TestCase):
    """Point 84."""

    def test_nothing(self):
        self.assertIsNone(wrong(full_stand(), "x", "b"))
        self.assertIsNone(wrong(full_stand(), "z", "b"))
        self.assertIsNone(wrong(full_stand(), "z", "d"))

    def test_the_staff_lies_elsewhere(self):
        self.assertEqual(wrong(full_stand(ends=["b", "b", "d"]), "x", "b"), ("staff", 0, "b"))
        self.assertEqual(wrong(full_stand(ends=["b", "b", "d"]), "z", "b"), ("staff", 1, "b"))
        self.assertEqual(wrong(full_stand(ends=["b", "b", "d"]), "z", "d"), ("staff", 2, "d"))

    def test_the_place_is_full(self):
        trains = [("x", "c"), ("y", "d")]
        self.assertEqual(wrong(full_stand(trains, ["a", "b", "c"]), "x", "d"), ("full", "d"))
        self.assertEqual(wrong(full_stand(trains, ["a", "b", "d"]), "x", "d"), ("staff", 2, "d"))

    def test_just_the_moves_are_not_hindered(self):
        for seed in range(60):
            stand = chance_stand(random.Random(seed))
            ways = [(move[0], move[1]) for move in stand.moves()]
            for train in stand.trains():
                for to in stand.line().names():
                    if stand.line().between(stand.place_of(train), to) is not None:
                        self.assertEqual(wrong(stand, train, to) is None, (train, to) in ways)

    def test_no_train(self):
        for thing in any_things() + ["a", "w"]:
            refused(self, NoTrain, "found", thing, wrong, full_stand(), thing, None)

    def test_no_place(self):
        for thing in any_things() + ["x", "e", 0]:
            refused(self, NoPlace, "found", thing, wrong, full_stand(), "x", thing)

    def test_no_way(self):
        for train, to in (("x", "a"), ("x", "c"), ("x", "d"), ("z", "a"), ("z", "c")):
            with self.assertRaises(NoWay) as caught:
                wrong(full_stand(), train, to)
            self.assertEqual(caught.exception.found, ("c" if train == "z" else "a", to))
            self.assertIs(type(caught.exception.found), tuple)


if __name__ == "__main__":
    unittest.main()
