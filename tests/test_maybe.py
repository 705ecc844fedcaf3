"""Points 7 and 74 to 76: where trains and staffs may be, when entries were lost on the way."""

import random
import unittest

from onestaff.books import books_of
from onestaff.days import Day
from onestaff.errors import Full, NoEnds, NoRows, NotSo, NoTrain, NoTrains, StaffError, TooMany
from onestaff.lines import Line
from onestaff.maybe import fills, may_be
from tests.days import TRAINS, day_behind, deeds_in, full_line
from tests.test_books import first_of
from tests.things import any_things, refused
from tests.walks import all_deeds, chance_day, chance_deed, place_written


def rows_of(text):
    """Rows from a text like "a: leave x b staff; b:", in which nothing behind the colon is a lost entry."""
    rows = [row.split(":") for row in text.split(";") if row.strip()]
    return [(place.strip(), (deeds_in(deed) + [None])[0]) for place, deed in rows]


def told_by(text, trains=TRAINS, ends=None):
    return may_be(full_line(), trains, ends, rows_of(text))


def filled(text, train, where, trains=TRAINS, ends=None):
    return fills(full_line(), trains, ends, rows_of(text), train, where)


class MayBe(unittest.TestCase):
    def test_no_rows(self):
        of_trains, of_staffs = may_be(full_line(), TRAINS, ["b", "c", "d"], [])
        self.assertEqual(of_trains, {"x": [("at", "a")], "y": [("at", "a")], "z": [("at", "c")]})
        self.assertEqual(of_staffs, {0: [("at", "b")], 1: [("at", "c")], 2: [("at", "d")]})
        self.assertEqual((list(of_trains), list(of_staffs)), (["x", "y", "z"], [0, 1, 2]))

    def test_a_tuple_of_two_dicts_of_lists(self):
        told = told_by("a:")
        self.assertEqual((type(told), [type(part) for part in told]), (tuple, [dict, dict]))
        self.assertEqual({type(spots) for part in told for spots in part.values()}, {list})
        self.assertEqual(may_be(full_line(), tuple(TRAINS), None, tuple(rows_of("a:"))), told)

    def test_nothing_lost(self):
        of_trains, of_staffs = told_by("a: leave x b staff; a: walk x a; a: help y x")
        self.assertEqual(of_trains, {
            "x": [("helped", "a", "b", "staff", "y")], "y": [("helping", "a", "x")], "z": [("at", "c")],
        })
        self.assertEqual(of_staffs, {0: [("with", "x")], 1: [("at", "c")], 2: [("at", "c")]})

    def test_one_lost(self):
        of_trains, of_staffs = told_by("a:")
        self.assertEqual(of_trains, {
            "x": [("at", "a"), ("in", "a", "b", "staff"), ("in", "a", "b", "ticket")],
            "y": [("at", "a"), ("in", "a", "b", "staff"), ("in", "a", "b", "ticket")],
            "z": [("at", "c")],
        })
        locked = [("locked", "a", to) for to in "abc"]
        self.assertEqual(of_staffs, {
            0: [("at", "a")] + locked + [("with", "x"), ("with", "y")], 1: [("at", "c")], 2: [("at", "c")],
        })

    def test_what_came_behind_tells_more(self):
        of_trains, of_staffs = told_by("a: ; b: come y")
        self.assertEqual(of_trains, {"x": [("at", "a")], "y": [("at", "b")], "z": [("at", "c")]})
        self.assertEqual(of_staffs[0], [("at", "a"), ("at", "b")])
        of_trains, of_staffs = told_by("a: ; b: come y; b: again b through 0")
        self.assertEqual(of_staffs[0], [("at", "a")])

    def test_two_lost(self):
        of_trains, of_staffs = told_by("a: ; b: ; b: leave x a staff")
        self.assertEqual(of_trains, {"x": [("in", "b", "a", "staff")], "y": [("at", "a")], "z": [("at", "c")]})
        self.assertEqual(of_staffs[0], [("with", "x")])
        of_trains, _ = told_by("d: ; c: ", [("z", "c"), ("v", "d")], ["a", "b", "d"])
        spots = [("at", "c"), ("at", "d"), ("stopped", "d", "c", "staff")]
        self.assertEqual(of_trains, {"z": [("at", "c")], "v": spots})

    def test_words_that_were_sent_between_have_numbers(self):
        of_trains, of_staffs = told_by("a: leave x b ticket; c: ; b: come x; b: again b through 0; a: get 2")
        # The word 2 is there only where the lost entry sent one: a lock for c itself sends none.
        self.assertEqual(of_staffs[1], [("at", "c"), ("locked", "c", "a"), ("locked", "c", "b")])
        self.assertEqual(of_staffs[2], [("at", "c"), ("locked", "c", "d")])
        self.assertEqual(of_trains["z"], [("at", "c")])

    def test_new_ones_each_time(self):
        told = told_by("a:")
        told[0]["x"].clear()
        told[0].clear()
        told[1][0].append(1)
        self.assertEqual(told_by("a:"), told_by("a:"))
        self.assertEqual(told_by("a:")[0]["x"][0], ("at", "a"))

    def test_rows_stay(self):
        rows = rows_of("a: ; b: come y; b:")
        may_be(full_line(), TRAINS, None, rows)
        fills(full_line(), TRAINS, None, rows, "x", None)
        self.assertEqual(rows, rows_of("a: ; b: come y; b:"))

    def test_twenty_four_rows(self):
        text = "a: leave x b ticket; b: come x;" + "b: again b through 0;" * 22
        self.assertEqual(told_by(text)[0]["x"], [("at", "b")])
        self.assertEqual(told_by(text.replace("b: again b through 0;", "b: ;", 2))[0]["y"], [("at", "a")])


def by_trying(line, trains, ends, rows):
    """All fillings and the days behind them, by trying each deed that there is on a twin."""
    found = [(Day(line, trains, ends), [])]
    for place, deed in rows:
        behind = []
        for day, filling in found:
            for one in all_deeds(day) if deed is None else [deed]:
                if place_written(day, one) == place:
                    twin = day.twin()
                    twin.do(one)
                    behind.append((twin, filling + [one] if deed is None else filling))
        found = behind
    return found


class AgainstTrying(unittest.TestCase):
    def test_by_chance(self):
        seen = set()
        for seed in range(60):
            chance = random.Random(seed)
            day = chance_day(chance)
            trains, ends = first_of(day)
            rows = []
            for _ in range(chance.randint(1, 16)):
                deed = chance_deed(day, chance)
                if deed is not None:
                    place = place_written(day, deed)
                    day.do(deed)
                    rows += [] if place is None else [(place, deed)]
            lost = chance.sample(range(len(rows)), min(chance.randint(0, 2), len(rows)))
            rows = [(place, None if n in lost else deed) for n, (place, deed) in enumerate(rows)]
            seen.add(len(lost))
            self.assert_just(day, trains, ends, rows)
        self.assertEqual(seen, {0, 1, 2})

    def assert_just(self, day, trains, ends, rows):
        line = day.line()
        found = by_trying(line, trains, ends, rows)
        of_trains, of_staffs = may_be(line, trains, ends, rows)
        stretches = range(line.many_stretches())
        self.assertEqual(of_trains, {t: sorted({one.where(t) for one, _ in found}) for t in day.trains()})
        self.assertEqual(of_staffs, {k: sorted({one.staff(k) for one, _ in found}) for k in stretches})
        spots = sorted({spot for told in of_trains.values() for spot in told})
        for train in day.trains():
            for spot in spots:
                fillings = [filling for one, filling in found if one.where(train) == spot]
                told = fills(line, trains, ends, rows, train, spot)
                self.assertTrue(told in fillings if fillings else told is None)

    def test_where_it_truly_is(self):
        for seed in range(40):
            chance = random.Random(seed)
            day = chance_day(chance)
            trains, ends = first_of(day)
            while day.done() < 20:
                deed = chance_deed(day, chance)
                if deed is None:
                    break
                day.do(deed)
            entries = sorted((n, place, deed) for place, book in books_of(day).items() for n, deed in book)
            lost = chance.sample(range(1, day.done() + 1), min(2, day.done()))
            rows = [(place, None if n in lost else deed) for n, place, deed in entries]
            of_trains, of_staffs = may_be(day.line(), trains, ends, rows)
            for train in day.trains():
                self.assertIn(day.where(train), of_trains[train])
            for k, spots in of_staffs.items():
                self.assertIn(day.staff(k), spots)


class Fills(unittest.TestCase):
    def test_a_filling(self):
        self.assertEqual(filled("a: ; b: come y", "y", ("at", "b"))[0][:3], ("leave", "y", "b"))
        self.assertEqual(filled("a:", "x", ("in", "a", "b", "ticket")), [("leave", "x", "b", "ticket")])
        told = filled("a: ; b: ; b: leave x a staff", "x", ("in", "b", "a", "staff"))
        self.assertEqual(told, [("leave", "x", "b", "staff"), ("come", "x")])

    def test_nothing_lost(self):
        self.assertEqual(filled("", "x", ("at", "a")), [])
        self.assertEqual(filled("a: leave x b staff", "x", ("in", "a", "b", "staff")), [])
        self.assertIsNone(filled("a: leave x b staff", "x", ("at", "a")))

    def test_where_it_cannot_be(self):
        for spot in (("at", "b"), ("at", "d"), ("in", "a", "b", "pilot"), ("in", "b", "a", "staff"), ("stopped", "a")):
            self.assertIsNone(filled("a:", "x", spot))

    def test_any_thing_as_a_spot(self):
        for thing in any_things() + ["at", ["at", "a"], ("at",), ("at", "a", "a"), (("at", "a"),)]:
            self.assertIsNone(filled("a:", "x", thing))

    def test_the_list_is_the_askers_own(self):
        told = filled("a:", "x", ("in", "a", "b", "staff"))
        told.clear()
        self.assertEqual(filled("a:", "x", ("in", "a", "b", "staff")), [("leave", "x", "b", "staff")])
        filled("", "x", ("at", "a")).append(1)
        self.assertEqual(filled("", "x", ("at", "a")), [])


class Refused(unittest.TestCase):
    def refused(self, error, field, thing, rows, train="x", ahead=False):
        """Both refuse so; with ahead, may_be alone, as fills looks at the train ahead of it."""
        calls = [lambda: may_be(full_line(), TRAINS, None, rows)]
        if not ahead:
            calls.append(lambda: fills(full_line(), TRAINS, None, rows, train, None))
        for call in calls:
            with self.assertRaises(StaffError) as caught:
                call()
            self.assertIs(type(caught.exception), error)
            self.assertEqual(getattr(caught.exception, field), thing)
            if field == "found":
                self.assertIs(caught.exception.found, thing)

    def test_as_a_day(self):
        for call in (may_be, lambda *args: fills(*args, None, None)):
            refused(self, NoTrains, "found", None, call, full_line(), None, 7, None)
            refused(self, Full, "found", "d", call, full_line(), [("x", "d"), ("y", "d")], 7, None)
            refused(self, NoEnds, "found", 7, call, full_line(), TRAINS, 7, None)

    def test_no_list(self):
        for thing in any_things() + ["ab", {"a": None}]:
            if not isinstance(thing, (list, tuple)):
                self.refused(NoRows, "found", thing, thing, None)

    def test_no_row(self):
        for thing in any_things() + [["a", None], ("a",), ("a", None, None), "ab", ("x", None), ("e", None)]:
            self.refused(NoRows, "found", thing, [("a", None), thing, None], None)
        for place in any_things() + ["e", 0]:
            row = (place, ("come", "x"))
            self.refused(NoRows, "found", row, [row])

    def test_rows_go_ahead_of_how_many(self):
        self.refused(NoRows, "found", None, [("a", None)] * 24 + [None])
        self.refused(NoRows, "found", None, [("a", None)] * 4000 + [None])

    def test_too_many_rows(self):
        self.refused(TooMany, "many", 25, [("a", ("come", "x"))] * 25, "nobody")
        self.refused(TooMany, "many", 25, [("a", None)] * 25, "nobody")
        self.refused(TooMany, "many", 4096, [("a", ("come", "x"))] * 4096)

    def test_too_many_lost(self):
        self.refused(TooMany, "many", 3, [("d", None)] * 3, "nobody")
        self.refused(TooMany, "many", 24, [("d", None)] * 24)
        self.refused(TooMany, "many", 3, [("a", None), ("b", ("come", "q")), ("a", None), ("a", None)])

    def test_no_train(self):
        for thing in any_things() + ["a", "w", ("x", "a")]:
            refused(self, NoTrain, "found", thing, fills, full_line(), TRAINS, None, rows_of("d:"), thing, None)
            refused(self, NoTrain, "found", thing, fills, full_line(), TRAINS, None, [], thing, None)

    def test_not_so(self):
        self.refused(NotSo, "number", 1, rows_of("d:"))
        self.refused(NotSo, "number", 1, rows_of("b: leave x b staff"))
        self.refused(NotSo, "number", 1, rows_of("a: come x; d:"))
        self.refused(NotSo, "number", 2, rows_of("a: leave x b staff; d:"))
        self.refused(NotSo, "number", 2, rows_of("a: ; d: come x"))
        self.refused(NotSo, "number", 3, rows_of("a: ; b: ; a: get 1"))
        self.refused(NotSo, "number", 2, rows_of("a: leave x b staff; a: come x"))
        self.refused(NotSo, "number", 3, rows_of("a: leave x b staff; b: come x; a: come x; d:"))

    def test_a_lost_word_is_no_entry(self):
        for place in "abcd":
            self.refused(NotSo, "number", 3, rows_of(f"a: leave x b ticket; b: come x; {place}: lose 0"))

    def test_any_thing_as_a_deed(self):
        for thing in any_things():
            if thing is not None:
                self.refused(NotSo, "number", 2, [("a", ("leave", "x", "b", "staff")), ("b", thing)])

    def test_just_the_entries_of_the_place(self):
        line = Line([("a", 1), ("b", 1)], [("staff", 0)])
        with self.assertRaises(NotSo) as caught:
            may_be(line, [("x", "b")], None, [("b", None)])
        self.assertEqual(caught.exception.number, 1)
        self.assertEqual(may_be(line, [("x", "b")], None, [("a", None)]), (
            {"x": [("at", "b")]}, {0: [("locked", "a", "b")]},
        ))

    def test_lost_words_make_no_difference(self):
        day = day_behind("leave x b ticket; come x; lose 0; again b through 0; get 1")
        rows = [("a", ("leave", "x", "b", "ticket")), ("b", ("come", "x")), ("b", None), ("a", ("get", 1))]
        self.assertEqual(may_be(full_line(), TRAINS, None, rows)[0]["x"], [day.where("x")])


if __name__ == "__main__":
    unittest.main()
