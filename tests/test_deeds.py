"""Points 5 and 42: what is a deed, its parts, and how a deed is written."""

import unittest

from onestaff.days import Day
from onestaff.errors import NoDeed, NoKind, NoLong, NoPlace, NoStretch, NoThing, NotHere, NotIn, NoTrain, NoWord
from onestaff.errors import StaffError
from onestaff.lines import Line
from tests.days import DayCase, day_behind, deeds_in, everything, full_day
from tests.things import BIG, any_things

# What stands in each deed, by the refusal of what is none.
FORMS = {
    "leave": (NoTrain, NoPlace, NoThing),
    "come": (NoTrain,),
    "lock": (NoPlace, NoStretch, NoPlace),
    "pilot": (NoPlace, NoStretch),
    "unlock": (NoPlace, NoStretch),
    "give": (NoPlace, NoStretch),
    "take": (NoPlace, NoLong),
    "box": (NoPlace, NoLong),
    "walk": (NoTrain, NoPlace),
    "help": (NoTrain, NoTrain),
    "bring": (NoTrain, NoPlace),
    "again": (NoPlace, NoKind, NoStretch),
    "get": (NoWord,),
    "lose": (NoWord,),
}
SOME = {NoTrain: "x", NoPlace: "b", NoThing: "staff", NoStretch: 1, NoLong: 0, NoKind: "lock", NoWord: 0}
NONE = {
    NoTrain: ["a", "b", "w", 0, ("at", "a"), ["x"]],
    NoPlace: ["x", "e", 0, 1, ["a"], ("a", 2)],
    NoThing: ["Staff", "staf", "through", "box", 0],
    NoStretch: [3, 4, -1, "0", "a", 1 << 40],
    NoLong: [1, 2, -1, "0", "a"],
    NoKind: ["Lock", "locks", "staff", 0],
    NoWord: [1, 2, -1, "0", "a"],
}


class NoDeeds(DayCase):
    def test_any_thing(self):
        for thing in any_things() + ["leave", "come x", ["come", "x"], 0, {"come": "x"}, ("come x",), ("come",)]:
            self.refused_thing(full_day(), NoDeed, thing, thing)

    def test_no_word_of_a_deed(self):
        for word in any_things() + ["Leave", "leaves", "comes", "a", "staff", "open", "locks", "", " come"]:
            for parts in ((), ("x",), ("x", "b"), ("x", "b", "staff")):
                deed = (word,) + parts
                self.refused_thing(full_day(), NoDeed, deed, deed)

    def test_another_number_of_parts(self):
        for word, form in FORMS.items():
            parts = tuple(SOME[error] for error in form)
            for deed in ((word,), (word,) + parts[:-1], (word,) + parts + (None,), (word,) + parts + parts):
                self.refused_thing(day_behind("lock b 1 c", ends=["a", "b", "c"]), NoDeed, deed, deed)

    def test_no_list(self):
        for word, form in FORMS.items():
            deed = [word] + [SOME[error] for error in form]
            self.refused_thing(full_day(), NoDeed, deed, deed)

    def test_the_very_thing(self):
        day = full_day()
        for thing in any_things():
            with self.assertRaises(NoDeed) as caught:
                day.do(thing)
            self.assertIs(caught.exception.found, thing)


class Parts(DayCase):
    def setUp(self):
        self.day = day_behind("lock b 1 c", ends=["a", "b", "c"])

    def test_each_part_that_is_none(self):
        for word, form in FORMS.items():
            for spot, error in enumerate(form):
                for thing in any_things() + NONE[error]:
                    parts = [SOME[other] for other in form]
                    parts[spot] = thing
                    self.refused_thing(self.day, error, thing, (word,) + tuple(parts))

    def test_the_very_part(self):
        for word, form in FORMS.items():
            for spot, error in enumerate(form):
                for thing in any_things():
                    parts = [SOME[other] for other in form]
                    parts[spot] = thing
                    with self.assertRaises(error) as caught:
                        self.day.do((word,) + tuple(parts))
                    self.assertIs(caught.exception.found, thing)

    def test_a_truth_is_no_number(self):
        day = day_behind("lock b 1 c; again b lock 1", ends=["a", "b", "c"])
        for truth in (True, False):
            for word, form in FORMS.items():
                for spot, error in enumerate(form):
                    parts = [SOME[other] for other in form]
                    parts[spot] = truth
                    self.refused_thing(day, error, truth, (word,) + tuple(parts))

    def test_the_first_part_goes_first(self):
        for word, form in FORMS.items():
            for spot, error in enumerate(form):
                parts = [SOME[other] for other in form[:spot]] + [None] * (len(form) - spot)
                self.refused_thing(self.day, error, None, (word,) + tuple(parts))

    def test_parts_go_ahead_of_the_point(self):
        day = day_behind("leave x b staff")
        self.refused(day, NoThing, "foot", "leave x d foot")
        self.refused(day, NoPlace, "e", "leave x e staff; walk z e; lock a 0 e; bring x e")
        self.refused(day, NotHere, "x", "leave x d staff")
        self.refused(day, NotIn, "z", "walk z d")
        self.refused(day, NoTrain, "e", "help x e")

    def test_where_there_is_no_long_one(self):
        day = Day(Line([("a", 1), ("b", 1)], [("staff", 0)]), [("x", "a")])
        for j in (0, False, -1, BIG):
            self.refused_thing(day, NoLong, j, ("take", "a", j))
            self.refused_thing(day, NoLong, j, ("box", "a", j))


class Written(DayCase):
    def test_entries_are_counted_through_all_books(self):
        rows = [("a", "leave x b ticket"), ("b", "come x"), ("a", "get 0"), ("c", "leave z d staff"), ("d", "come z")]
        day = full_day()
        for number, (_, text) in enumerate(rows, start=1):
            self.assertEqual(day.do(deeds_in(text)[0]), number)
        for name in "abcd":
            book = [(number, deeds_in(row)[0]) for number, (place, row) in enumerate(rows, start=1) if place == name]
            self.assertEqual(day.book(name), book)
        self.assertEqual(day.done(), 5)
        self.assertEqual(day.deeds(), [deeds_in(row)[0] for _, row in rows])

    def test_a_lost_word_is_written_nowhere(self):
        day = day_behind("leave x b ticket; come x; again b through 0")
        books = [day.book(name) for name in "abcd"]
        self.assertIsNone(day.do(("lose", 0)))
        self.assertEqual(([day.book(name) for name in "abcd"], day.done()), (books, 3))
        self.assertEqual(day.deeds()[-1], ("lose", 0))
        self.assertEqual(day.do(("get", 1)), 4)
        self.assertEqual(day.book("a")[-1], (4, ("get", 1)))

    def test_what_is_refused_is_written_nowhere(self):
        day = day_behind("leave x b ticket")
        before = everything(day)
        for deed in (None, ("come", "y"), ("come", "w"), ("lose", 0), ("get", 0), ("leave", "y", "b", "ticket")):
            with self.assertRaises(StaffError):
                day.do(deed)
        self.assertEqual(everything(day), before)
        self.assertEqual(day.do(("come", "x")), 2)

    def test_three_hundred_deeds(self):
        day = day_behind("leave x b ticket; come x")
        for number in range(3, 301):
            self.assertEqual(day.do(("again", "b", "through", 0)), number)
        self.assertEqual((day.done(), len(day.book("b")), len(day.words()), len(day.deeds())), (300, 299, 299, 300))


if __name__ == "__main__":
    unittest.main()
