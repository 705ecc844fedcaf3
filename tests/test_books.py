"""Points 71 to 73: the books of a day, and the day that they tell."""

import random
import unittest

from onestaff.books import books_of, day_by
from onestaff.days import Day
from onestaff.errors import Full, Gap, NoBooks, NoEnds, NotSo, NoTrains, StaffError
from tests.days import TRAINS, answers, day_behind, everything, full_day, full_line
from tests.things import any_things, refused
from tests.walks import chance_day, chance_deed

ROWS = "leave x b ticket; come x; get 0; leave z b staff; lock a 0 b; come z; get 1; pilot b 0"


def books():
    return books_of(day_behind(ROWS))


def found(found_in, trains=TRAINS, ends=None):
    return day_by(full_line(), trains, ends, found_in)


class Books(unittest.TestCase):
    def test_told(self):
        self.assertEqual(books(), {
            "a": [(1, ("leave", "x", "b", "ticket")), (3, ("get", 0)), (5, ("lock", "a", 0, "b"))],
            "b": [(2, ("come", "x")), (6, ("come", "z")), (7, ("get", 1)), (8, ("pilot", "b", 0))],
            "c": [(4, ("leave", "z", "b", "staff"))],
            "d": [],
        })
        self.assertEqual(list(books()), list("abcd"))
        self.assertEqual(books_of(full_day()), {name: [] for name in "abcd"})

    def test_the_askers_own(self):
        day = day_behind(ROWS)
        told = books_of(day)
        told["a"].clear()
        told["b"].append(None)
        told.pop("c")
        self.assertEqual(books_of(day), books())


class Found(unittest.TestCase):
    def test_the_day_again(self):
        day = found(books())
        self.assertIs(type(day), Day)
        self.assertEqual(everything(day), everything(day_behind(ROWS)))

    def test_no_entries(self):
        self.assertEqual(everything(found({name: [] for name in "dcba"})), everything(full_day()))

    def test_in_any_order(self):
        chance = random.Random(72)
        for _ in range(20):
            mixed = {name: chance.sample(book, len(book)) for name, book in books().items()}
            mixed = {name: chance.choice([tuple, list])(mixed[name]) for name in chance.sample("abcd", 4)}
            before = repr(mixed)
            self.assertEqual(everything(found(mixed)), everything(day_behind(ROWS)))
            self.assertEqual(repr(mixed), before)

    def test_other_trains_and_ends(self):
        day = full_day([("w", "b")], ["b", "b", "d"])
        for deed in (("leave", "w", "c", "staff"), ("come", "w")):
            day.do(deed)
        again = day_by(full_line(), (("w", "b"),), ("b", "b", "d"), books_of(day))
        self.assertEqual(everything(again), everything(day))

    def test_copied(self):
        handed = books()
        day = found(handed)
        before = everything(day)
        handed["a"].clear()
        handed.clear()
        self.assertEqual(everything(day), before)
        day.do(("leave", "x", "a", "pilot"))
        self.assertEqual(books(), books_of(found(books())))

    def test_lost_words_are_under_way_still(self):
        day = day_behind("leave x b ticket; come x; lose 0; again b through 0; leave z d ticket")
        again = found(books_of(day))
        self.assertEqual(again.words(), [(n, ("b", "a", "through", 0, 1)) for n in (0, 1)])
        self.assertEqual(day.words(), [(1, ("b", "a", "through", 0, 1))])
        self.assertEqual(again.deeds(), [deed for deed in day.deeds() if deed[0] != "lose"])

    def test_by_chance(self):
        for seed in range(60):
            chance = random.Random(seed)
            day = chance_day(chance)
            start, ends = first_of(day)
            lost = {}
            for _ in range(60):
                deed = chance_deed(day, chance)
                if deed is not None:
                    if deed[0] == "lose":
                        lost.update([row for row in day.words() if row[0] == deed[1]])
                    day.do(deed)
            again = day_by(day.line(), start, ends, books_of(day))
            told = answers(again)
            self.assertEqual(told.pop("words"), sorted(day.words() + list(lost.items())))
            mine = answers(day)
            mine.pop("words")
            self.assertEqual(told, mine)
            self.assertEqual(again.told()[7:], day.told()[7:])
            self.assertEqual(books_of(again), books_of(day))


def first_of(day):
    """The trains and the ends of a day that did nothing yet."""
    trains = [(train, day.where(train)[1]) for train in day.trains()]
    return trains, [day.staff(k)[1] for k in range(day.line().many_stretches())]


class RefusedBooks(unittest.TestCase):
    def refused(self, error, field, thing, handed):
        with self.assertRaises(StaffError) as caught:
            found(handed)
        self.assertIs(type(caught.exception), error)
        self.assertEqual(getattr(caught.exception, field), thing)

    def test_as_a_day(self):
        refused(self, NoTrains, "found", None, day_by, full_line(), None, 7, None)
        refused(self, Full, "found", "d", day_by, full_line(), [("x", "d"), ("y", "d")], 7, None)
        refused(self, NoEnds, "found", 7, day_by, full_line(), TRAINS, 7, None)

    def test_no_dict_of_just_the_places(self):
        for thing in any_things():
            refused(self, NoBooks, "found", thing, found, thing)
        for name in "abcd":
            handed = books()
            handed.pop(name)
            refused(self, NoBooks, "found", handed, found, handed)
            handed["e"] = []
            refused(self, NoBooks, "found", handed, found, handed)
        for key in ("e", "", None, 0, "x", ("a",)):
            handed = {**books(), key: []}
            refused(self, NoBooks, "found", handed, found, handed)

    def test_no_list(self):
        for name in "abcd":
            for thing in any_things() + ["ab", {1: ("come", "x")}]:
                if not isinstance(thing, (list, tuple)):
                    refused(self, NoBooks, "found", thing, found, handed_in(name, thing))

    def test_no_entry(self):
        for name in "abcd":
            for thing in any_things() + [[1, ("come", "x")], (1,), (1, ("come", "x"), 1), "1c"]:
                if not (isinstance(thing, tuple) and len(thing) == 2):
                    refused(self, NoBooks, "found", thing, found, handed_in(name, [thing]))
            for number in any_things() + [0, 301, "1"]:
                if number not in (10, 300) or isinstance(number, bool):
                    entry = (number, ("come", "x"))
                    refused(self, NoBooks, "found", entry, found, handed_in(name, [(1, None), entry]))

    def test_place_by_place(self):
        refused(self, NoBooks, "found", 8, found, {"d": None, "c": [None], "b": 8, "a": [(1, 1), (1, 1)]})
        refused(self, NoBooks, "found", (0, 0), found, {"d": None, "c": [None], "b": 8, "a": [(1, 1), (0, 0), (1,)]})
        self.refused(NoBooks, "found", None, {"d": None, "c": [], "b": [(7, 1)], "a": []})

    def test_gap(self):
        for number in range(1, 8):
            handed = {name: [row for row in book if row[0] != number] for name, book in books().items()}
            self.refused(Gap, "number", number, handed)
        handed = {name: [row for row in book if row[0] != 8] for name, book in books().items()}
        self.assertEqual(everything(found(handed)), everything(day_behind(ROWS[:ROWS.rindex(";")])))

    def test_twice(self):
        for number in range(1, 9):
            for name in "abcd":
                handed = books()
                handed[name].append((number, ("come", "x")))
                self.refused(Gap, "number", number, handed)
        handed = books()
        handed["b"] = handed["b"] * 2
        self.refused(Gap, "number", 2, handed)

    def test_twice_and_a_gap(self):
        self.refused(Gap, "number", 1, handed_in("a", [(2, None), (2, None)]))
        self.refused(Gap, "number", 1, handed_in("a", [(1, None), (3, None), (1, None)]))
        self.refused(Gap, "number", 2, handed_in("a", [(1, None), (3, None), (3, None)]))
        self.refused(Gap, "number", 1, handed_in("a", [(300, None)]))
        self.refused(Gap, "number", 1, handed_in("a", [(number, None) for number in range(2, 301)] * 2))

    def test_beyond_three_hundred(self):
        many = [(number, ("come", "x")) for number in range(1, 301)]
        self.refused(Gap, "number", 1, handed_in("a", many + [(1, None)]))
        self.refused(NoBooks, "found", (301, None), handed_in("a", many + [(301, None)]))

    def test_a_gap_goes_ahead_of_deeds(self):
        self.refused(Gap, "number", 2, handed_in("a", [(1, None), (3, None)]))

    def test_a_deed_that_the_day_refuses(self):
        for number in range(1, 9):
            wrong = [("come", "y"), ("come", "w"), ("get", 9), ("leave", "x", "d", "staff"), "come x"]
            for deed in any_things() + wrong:
                handed = {
                    name: [(n, deed if n == number else row) for n, row in book] for name, book in books().items()
                }
                self.refused(NotSo, "number", number, handed)

    def test_in_the_book_of_another_place(self):
        for number in range(1, 9):
            for other in "abcd":
                handed = books()
                for name, book in handed.items():
                    entry = [row for row in book if row[0] == number]
                    if entry and name != other:
                        book.remove(entry[0])
                        handed[other].append(entry[0])
                        self.refused(NotSo, "number", number, handed)
                        break

    def test_written_in_no_book(self):
        for name in "abcd":
            handed = books_of(day_behind("leave x b ticket; come x"))
            handed[name].append((3, ("lose", 0)))
            self.refused(NotSo, "number", 3, handed)

    def test_the_first_one_goes_first(self):
        self.refused(NotSo, "number", 2, handed_in("a", [(3, None), (2, None), (1, ("lock", "a", 0, "a"))]))
        self.refused(NotSo, "number", 1, handed_in("b", [(1, ("lock", "a", 0, "a")), (2, ("lose", 0))]))


def handed_in(name, book):
    handed = {place: [] for place in "abcd"}
    handed[name] = book
    return handed


if __name__ == "__main__":
    unittest.main()
