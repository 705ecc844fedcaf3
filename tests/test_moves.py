"""Points 85 to 88, and 8 and 9 of them: the fewest moves that bring a staff, and what shows that there are no fewer."""

import random
import unittest

from onestaff.errors import NoPlace, NoStretch, NoWay, TooMany
from onestaff.lines import Line
from onestaff.moves import brings, fewest_paper, shows_fewest, shows_never
from onestaff.stands import Stand
from tests.days import TRAINS, full_line
from tests.stands import chance_stand, moves_told, reached
from tests.things import BIG, any_things, refused

TICKETS = [("ticket", 0), ("ticket", 0)]
THREE = [("a", 2), ("b", 1), ("c", 1)]


def lone_stand():
    """A train at c whose staff lies at b: no move at all, so no staff is ever brought anywhere."""
    return Stand(Line(THREE, TICKETS), [("x", "c")])


def far_stand():
    """The staff 1 comes to c by x, which must come to b ahead, and y must leave c ahead: three moves."""
    line = Line([("a", 1), ("b", 1), ("c", 1), ("d", 1)], [("staff", 0), ("ticket", 0), ("staff", 0)])
    return Stand(line, [("x", "a"), ("y", "c")])


def follow(stand, moves):
    for move in moves:
        stand = stand.moved(move)
    return stand


def asked(stand):
    """Each stretch of the stand's line with each of its ends."""
    line = stand.line()
    return [(k, place) for k in range(line.many_stretches()) for place in line.ends(k)]


def small(stand):
    line = stand.line()
    return len(line.names()) ** len(stand.trains()) * 2 ** line.many_stretches() <= 2048


def small_stands(many, most_trains=3):
    stands = [chance_stand(random.Random(seed), most_trains) for seed in range(many)]
    return [stand for stand in stands if small(stand)]


class Brings(unittest.TestCase):
    """Point 85."""

    def test_it_lies_there_already(self):
        self.assertEqual(brings(lone_stand(), 0, "a"), ("moves", []))
        self.assertEqual(brings(lone_stand(), 1, "b"), ("moves", []))

    def test_one_move(self):
        stand = Stand(full_line(), TRAINS)
        self.assertEqual(brings(stand, 1, "b"), ("moves", [("z", "b", "staff")]))
        word, moves = brings(stand, 0, "b")
        self.assertEqual((word, moves[0][1:], len(moves)), ("moves", ("b", "staff"), 1))

    def test_moves_of_other_trains(self):
        stand = far_stand()
        word, moves = brings(stand, 1, "c")
        self.assertEqual(word, "moves")
        self.assertEqual(sorted(moves), [("x", "b", "staff"), ("x", "c", "staff"), ("y", "d", "staff")])
        self.assertEqual(moves[2], ("x", "c", "staff"))
        self.assertEqual(follow(stand, moves).staff_at(1), "c")

    def test_a_place_that_must_be_freed_ahead(self):
        line = Line([("a", 1), ("b", 1), ("c", 1)], [("staff", 0), ("staff", 0)])
        stand = Stand(line, [("x", "a"), ("y", "b")])
        self.assertEqual(brings(stand, 0, "b"), ("moves", [("y", "c", "staff"), ("x", "b", "staff")]))

    def test_never(self):
        stand = lone_stand()
        self.assertEqual(brings(stand, 0, "b"), ("never", [stand.state()]))
        self.assertEqual(brings(stand, 1, "c"), ("never", [stand.state()]))
        line = Line(THREE, [("staff", 0), ("staff", 1)])
        stand = Stand(line, [("x", "a")])
        word, states = brings(stand, 1, "b")
        self.assertEqual((word, sorted(states)), ("never", [(("a",), ("a", "c")), (("b",), ("b", "c"))]))

    def test_kinds(self):
        for stand in (lone_stand(), far_stand()):
            for k, place in asked(stand):
                told = brings(stand, k, place)
                self.assertEqual((type(told), type(told[0]), type(told[1])), (tuple, str, list))

    def test_lists_are_the_askers_own(self):
        for k, place in ((0, "b"), (0, "a")):
            stand = lone_stand()
            brings(stand, k, place)[1].append("x")
            self.assertEqual(brings(stand, k, place), brings(lone_stand(), k, place))

    def test_against_a_walk_over_all_states(self):
        words = {"moves": 0, "never": 0}
        for stand in small_stands(70):
            many = reached(stand)
            before = stand.state()
            for k, place in asked(stand):
                word, told = brings(stand, k, place)
                words[word] += 1
                there = [many[state] for state in many if state[1][k] == place]
                if there:
                    self.assertEqual((word, len(told)), ("moves", min(there)))
                    self.assertEqual(follow(stand, told).staff_at(k), place)
                else:
                    self.assertEqual((word, sorted(told)), ("never", sorted(many)))
            self.assertEqual(stand.state(), before)
        self.assertGreater(min(words.values()), 50)

    def test_the_same_answer_again(self):
        for stand in small_stands(10):
            for k, place in asked(stand):
                again = Stand(stand.line(), list(zip(stand.trains(), stand.state()[0])), stand.state()[1])
                self.assertEqual(brings(again, k, place), brings(stand, k, place))


class Papers(unittest.TestCase):
    """Points 86 and 87."""

    def test_told_papers_show_it(self):
        papers = 0
        for stand in small_stands(50):
            for k, place in asked(stand):
                word, moves = brings(stand, k, place)
                paper = fewest_paper(stand, k, place)
                if word == "never":
                    self.assertIsNone(paper)
                    continue
                papers += 1
                self.assertIs(type(paper), dict)
                self.assertIs(shows_fewest(stand, k, place, len(moves), paper), True)
                for many in (len(moves) - 1, len(moves) + 1, None, True, False, str(len(moves))):
                    self.assertIs(shows_fewest(stand, k, place, many, paper), False)
        self.assertGreater(papers, 100)

    def test_none_where_it_is_never_brought(self):
        self.assertIsNone(fewest_paper(lone_stand(), 0, "b"))

    def test_the_dict_is_the_askers_own(self):
        stand = far_stand()
        paper = fewest_paper(stand, 1, "c")
        fewest_paper(stand, 1, "c").clear()
        self.assertEqual(fewest_paper(stand, 1, "c"), paper)

    def test_no_move_needed(self):
        stand = lone_stand()
        self.assertIs(shows_fewest(stand, 0, "a", 0, {}), True)
        self.assertIs(shows_fewest(stand, 0, "a", 1, {}), False)
        self.assertIs(shows_fewest(stand, 0, "a", False, {}), False)
        self.assertIs(shows_fewest(stand, 0, "a", 1, {stand.state(): 1}), False)

    def test_fewer_are_shown_too(self):
        stand = far_stand()
        many = len(brings(stand, 1, "c")[1])
        self.assertGreater(many, 1)
        self.assertIs(shows_fewest(stand, 1, "c", 0, {}), True)
        self.assertIs(shows_fewest(stand, 1, "c", 1, {stand.state(): 1}), True)
        self.assertIs(shows_fewest(stand, 1, "c", 2, {stand.state(): 2}), False)

    def test_where_it_is_never_brought_any_number_is_shown(self):
        stand = lone_stand()
        for many in (1, 2, 3000, BIG):
            self.assertIs(shows_fewest(stand, 0, "b", many, {stand.state(): many}), True)
            self.assertIs(shows_fewest(stand, 0, "b", many, {}), False)

    def test_any_thing_as_a_number(self):
        stand = far_stand()
        paper = fewest_paper(stand, 1, "c")
        for thing in any_things():
            self.assertIs(shows_fewest(stand, 1, "c", thing, paper), False)
            self.assertIs(shows_fewest(stand, 1, "c", thing, {}), False)

    def test_any_thing_as_a_paper(self):
        stand = lone_stand()
        things = any_things() + [list({stand.state(): 1}.items()), [stand.state()], ((stand.state(), 1),)]
        for thing in things:
            self.assertIs(shows_fewest(stand, 0, "b", 1, thing), False)
            self.assertIs(shows_fewest(stand, 0, "b", 0, thing), thing == {})

    def test_keys_that_are_no_states(self):
        stand = lone_stand()
        state = stand.state()
        stands, staffs = state
        wrong = [stands, staffs, (), (stands,), state + (staffs,), (staffs, stands), (stands, ("a",))]
        wrong += [(("c", "c"), staffs)]
        wrong += [((), staffs), (("e",), staffs), (("c",), ("c", "b")), (("c",), ("b", "a")), (stands, staffs + ("b",))]
        wrong += [("c", staffs), (stands, "ab"), ((0,), staffs), ((None,), staffs), (stands, ("a", 1)), (stands, None)]
        wrong += [thing for thing in any_things() if not isinstance(thing, (list, dict)) and thing != ((), [])]
        for key in wrong:
            self.assertIs(shows_fewest(stand, 0, "b", 1, {state: 1, key: 1}), False, key)
            self.assertIs(shows_fewest(stand, 0, "b", 1, {key: 1, state: 1}), False, key)

    def test_states_with_more_trains_than_roads(self):
        stand = Stand(Line(THREE, TICKETS), [("x", "c"), ("y", "a")])
        state = stand.state()
        for places, holds in ((("a", "a"), True), (("a", "b"), True), (("b", "b"), False), (("c", "c"), False)):
            paper = {state: 1, (places, ("a", "b")): 1}
            self.assertIs(shows_fewest(stand, 0, "b", 1, paper), holds, places)

    def test_states_of_another_line(self):
        other = Stand(Line([("a", 2), ("b", 1), ("d", 1)], TICKETS), [("x", "d")])
        stand = lone_stand()
        self.assertIs(shows_fewest(stand, 0, "b", 1, {stand.state(): 1, other.state(): 1}), False)

    def test_counts_that_are_no_numbers_from_one_on(self):
        stand = Stand(Line(THREE, TICKETS), [("x", "c"), ("y", "a")])
        state, other = stand.state(), (("a", "a"), ("a", "b"))
        # From the other state the staff 0 comes to b by one move, so there any count above 1 is too much.
        for count in any_things() + [0, False]:
            self.assertIs(shows_fewest(stand, 0, "b", 1, {state: 1, other: count}), False, count)
            self.assertIs(shows_fewest(stand, 0, "b", 1, {state: count}), False, count)
        self.assertIs(shows_fewest(stand, 0, "b", 1, {state: 1, other: 1}), True)

    def test_a_count_at_which_the_staff_lies_there(self):
        stand = lone_stand()
        self.assertIs(shows_fewest(stand, 0, "b", 1, {stand.state(): 1, (("c",), ("b", "b")): 1}), False)
        self.assertIs(shows_fewest(stand, 0, "b", 1, {stand.state(): 1, (("b",), ("a", "b")): 1}), True)

    def test_a_state_that_counts_too_much_anywhere(self):
        stand = lone_stand()
        # By one move from here the staff 0 comes to b, though no move leads from the stand to here.
        far = (("a",), ("a", "b"))
        self.assertIs(shows_fewest(stand, 0, "b", 1, {stand.state(): 1, far: 1}), True)
        self.assertIs(shows_fewest(stand, 0, "b", 1, {stand.state(): 1, far: 2}), False)

    def test_each_count_of_a_told_paper_matters(self):
        for stand in small_stands(25):
            for k, place in asked(stand):
                paper = fewest_paper(stand, k, place)
                if paper is not None and paper:
                    self.assert_changes_seen(stand, k, place, paper)

    def assert_changes_seen(self, stand, k, place, paper):
        many = paper[stand.state()]
        for state in list(paper)[:40]:
            for count in (paper[state] - 1, paper[state] + 1, None):
                other = {key: worth for key, worth in paper.items() if key != state}
                if count is not None:
                    other[state] = count
                self.assertEqual(shows_fewest(stand, k, place, many, other), by_words(stand, k, place, many, other))

    def test_the_paper_stays(self):
        stand = far_stand()
        paper = fewest_paper(stand, 1, "c")
        before = dict(paper)
        shows_fewest(stand, 1, "c", 1, paper)
        self.assertEqual(paper, before)

    def test_more_states_than_the_bound(self):
        line = Line([(name, 3) for name in "abcdef"], [("ticket", 0)] * 5)
        stand = Stand(line, [("x", "f"), ("y", "f"), ("z", "f"), ("w", "a")])
        self.assertIs(shows_fewest(stand, 0, "b", 1, {stand.state(): 1}), True)
        self.assertIs(shows_fewest(stand, 0, "b", 2, {stand.state(): 2}), False)
        self.assertIs(shows_never(stand, 0, "b", [stand.state()]), False)
        still = Stand(line, [("x", "f"), ("y", "f"), ("z", "f"), ("w", "f")][:3])
        self.assertIs(shows_never(still, 0, "b", [still.state()]), True)


def by_words(stand, k, place, many, paper):
    """Point 86, of a paper whose keys are states and whose counts are whole numbers."""
    if any(count < 1 for count in paper.values()) or any(state[1][k] == place for state in paper):
        return False
    for state in paper:
        for _, behind in moves_told(stand.line(), stand.trains(), state):
            if paper.get(behind, 0) < paper[state] - 1:
                return False
    return paper.get(stand.state(), 0) == many


class Never(unittest.TestCase):
    """Point 88."""

    def test_told_states_show_it(self):
        told = 0
        for stand in small_stands(60):
            for k, place in asked(stand):
                word, states = brings(stand, k, place)
                if word == "never":
                    told += 1
                    self.assert_shown(stand, k, place, states)
        self.assertGreater(told, 50)

    def assert_shown(self, stand, k, place, states):
        self.assertIs(shows_never(stand, k, place, states), True)
        self.assertIs(shows_never(stand, k, place, tuple(states[::-1])), True)
        self.assertIs(shows_never(stand, k, place, states + states[:1]), True)
        for state in states[:20]:
            missing = [other for other in states if other != state]
            self.assertIs(shows_never(stand, k, place, missing), closed(stand, k, place, missing))
            self.assertIs(shows_never(stand, k, place, states + [list(state)]), False)

    def test_one_missing(self):
        stand = Stand(Line(THREE, [("staff", 0), ("staff", 1)]), [("x", "a")])
        here, there = (("a",), ("a", "c")), (("b",), ("b", "c"))
        self.assertIs(shows_never(stand, 1, "b", [here, there]), True)
        self.assertIs(shows_never(stand, 1, "b", [there, here, here]), True)
        self.assertIs(shows_never(stand, 1, "b", [here]), False)
        self.assertIs(shows_never(stand, 1, "b", [there]), False)
        self.assertIs(shows_never(stand, 1, "b", []), False)

    def test_one_more(self):
        stand = lone_stand()
        own = stand.state()
        # From b no move leads to where both staffs lie elsewhere; from a the staff 0 is brought to b.
        self.assertIs(shows_never(stand, 0, "b", [own, (("b",), ("a", "c"))]), True)
        self.assertIs(shows_never(stand, 0, "b", [own, (("a",), ("a", "b"))]), False)
        self.assertIs(shows_never(stand, 0, "b", [own, (("c",), ("b", "b"))]), False)

    def test_where_it_lies_there_or_is_brought_there(self):
        for stand in small_stands(20):
            many = reached(stand)
            for k, place in asked(stand):
                if brings(stand, k, place)[0] == "moves":
                    self.assertIs(shows_never(stand, k, place, list(many)), False)
                    states = [state for state in many if state[1][k] != place]
                    self.assertIs(shows_never(stand, k, place, states), False)
                    self.assertIs(shows_never(stand, k, place, [stand.state()]), False)

    def test_any_thing(self):
        stand = lone_stand()
        own = stand.state()
        for thing in any_things() + [own, {own: 1}, {own: True}, (own, own, None), "ab"]:
            self.assertIs(shows_never(stand, 0, "b", thing), False)
        no_states = [list(own), own + ("a",), (own[0],), (list(own[0]), own[1]), own[0], (("d",), own[1])]
        for thing in any_things() + no_states:
            self.assertIs(shows_never(stand, 0, "b", [own, thing]), False)
            self.assertIs(shows_never(stand, 0, "b", [thing, own]), False)

    def test_the_list_stays(self):
        stand = lone_stand()
        states = [stand.state()]
        shows_never(stand, 0, "b", states)
        self.assertEqual(states, [stand.state()])


def closed(stand, k, place, states):
    """Point 88, of a list of states."""
    if stand.state() not in states or any(state[1][k] == place for state in states):
        return False
    steps = [moves_told(stand.line(), stand.trains(), state) for state in states]
    return all(behind in states for told in steps for _, behind in told)


class Refused(unittest.TestCase):
    def calls(self, k, place, stand=None):
        stand = lone_stand() if stand is None else stand
        return [
            lambda: brings(stand, k, place), lambda: fewest_paper(stand, k, place),
            lambda: shows_fewest(stand, k, place, None, None), lambda: shows_never(stand, k, place, None),
        ]

    def test_no_stretch(self):
        for thing in any_things() + [2, -1, "0"]:
            for call in self.calls(thing, None):
                refused(self, NoStretch, "found", thing, call)

    def test_no_place(self):
        for thing in any_things() + ["x", "d", 0]:
            for call in self.calls(1, thing):
                refused(self, NoPlace, "found", thing, call)

    def test_no_way(self):
        for k, place in ((0, "c"), (1, "a")):
            for call in self.calls(k, place):
                with self.assertRaises(NoWay) as caught:
                    call()
                self.assertEqual(caught.exception.found, (k, place))
                self.assertIs(type(caught.exception.found), tuple)

    def many_stand(self, places, trains):
        line = Line([(name, 3) for name in "abcdef"[:places]], [("ticket", 0)] * (places - 1))
        return Stand(line, list(zip("wxyz"[:trains], "abab")))

    def test_at_the_bound(self):
        for places, trains in ((4, 4), (5, 3), (6, 2)):
            stand = self.many_stand(places, trains)
            self.assertEqual(brings(stand, 0, "b"), ("moves", [("w", "b", "staff")]))
            self.assertIs(shows_fewest(stand, 0, "b", 1, fewest_paper(stand, 0, "b")), True)

    def test_above_the_bound(self):
        for places, trains, many in ((5, 4, 10000), (6, 3, 6912), (6, 4, 41472)):
            stand = self.many_stand(places, trains)
            for place in ("a", "b"):
                for call in self.calls(0, place, stand)[:2]:
                    with self.assertRaises(TooMany) as caught:
                        call()
                    self.assertEqual(caught.exception.many, many)
            for call in self.calls(0, "c", stand):
                with self.assertRaises(NoWay):
                    call()
            self.assertIs(shows_fewest(stand, 0, "a", 0, {}), True)
            self.assertIs(shows_never(stand, 0, "a", []), False)


class OtherWays(unittest.TestCase):
    """Point 9: with other names, and the other way round, all is likewise; trains that never move take up roads."""

    def test_with_other_names(self):
        new = {"a": "f", "b": "e", "c": "x", "d": "q", "e": "at", "f": "long", "x": "y", "y": "in", "z": "b"}
        for stand in small_stands(30, 2):
            places, staffs = stand.state()
            line = stand.line().renamed({name: new[name] for name in stand.line().names()})
            trains = [(new[train], new[place]) for train, place in zip(stand.trains(), places)]
            other = Stand(line, trains, [new[place] for place in staffs])
            self.assertEqual(other.moves(), [(new[train], new[to], thing) for train, to, thing in stand.moves()])
            for k, place in asked(stand):
                self.assert_alike(brings(stand, k, place), brings(other, k, new[place]))

    def test_the_other_way_round(self):
        for stand in small_stands(30, 2):
            places, staffs = stand.state()
            top = stand.line().many_stretches() - 1
            other = Stand(stand.line().mirrored(), list(zip(stand.trains(), places)), staffs[::-1])
            self.assertEqual(sorted(other.moves()), sorted(stand.moves()))
            for k, place in asked(stand):
                self.assert_alike(brings(stand, k, place), brings(other, top - k, place))

    def assert_alike(self, one, other):
        self.assertEqual((one[0], len(one[1])), (other[0], len(other[1])))

    def test_a_train_that_never_moves(self):
        # No staff lies at the place of w, and none is brought there, as its road is taken up.
        line = Line([("a", 2), ("b", 2), ("c", 1), ("d", 1)], [("ticket", 0), ("staff", 1), ("staff", 0)])
        short = Line([("a", 2), ("b", 2), ("c", 1)], [("ticket", 0), ("staff", 1)])
        for trains in ([("x", "a")], [("x", "c")], [("x", "c"), ("y", "a")]):
            with_it, without = Stand(line, trains + [("w", "d")]), Stand(short, trains)
            for k, place in asked(without):
                self.assert_alike(brings(with_it, k, place), brings(without, k, place))

    def test_one_road_less_instead(self):
        for seed in range(60):
            stand = chance_stand(random.Random(seed), 3)
            places, stretches, longs = stand.line().told()
            for place in [name for name, roads in places if roads < 3]:
                wide = Line([(name, roads + (name == place)) for name, roads in places], stretches, longs)
                trains = list(zip(stand.trains(), stand.state()[0]))
                other = Stand(wide, [("w", place)] + trains, stand.state()[1])
                self.assertEqual([move for move in other.moves() if move[0] != "w"], stand.moves())


if __name__ == "__main__":
    unittest.main()
