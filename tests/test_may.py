"""Point 49: the deeds that may be done."""

import random
import unittest

from onestaff.days import Day
from onestaff.errors import NoPlace
from onestaff.lines import Line
from tests.days import TAKE, day_behind, deeds_in, everything, full_day
from tests.things import refused
from tests.walks import all_deeds, chance_day, place_written, walk


class May(unittest.TestCase):
    def test_at_first(self):
        self.assertEqual(full_day().may(), deeds_in(
            "leave x b staff; leave x b ticket; leave y b staff; leave y b ticket;"
            "leave z b staff; leave z d staff; leave z d ticket;"
            "lock a 0 a; lock a 0 b; lock a 0 c; lock c 1 a; lock c 1 b; lock c 1 c; lock c 2 d"
        ))

    def test_of_a_place(self):
        day = full_day()
        self.assertEqual(day.may("c"), deeds_in(
            "leave z b staff; leave z d staff; leave z d ticket; lock c 1 a; lock c 1 b; lock c 1 c; lock c 2 d"
        ))
        self.assertEqual(day.may("b"), [])
        self.assertEqual(day.may("d"), [])
        self.assertEqual(day.may(None), day.may())

    def test_nothing(self):
        day = Day(Line([("a", 1), ("b", 1)], [("staff", 0)]), [("x", "b"), ("y", "a")], ["b"])
        self.assertEqual(day.may("a"), [])
        self.assertEqual(day.may(), deeds_in("leave x a staff; lock b 0 a"))
        day.do(("leave", "x", "a", "staff"))
        self.assertEqual(day.may(), deeds_in("walk x a; walk x b"))
        day.do(("walk", "x", "b"))
        self.assertEqual(day.may(), [])

    def test_words_of_deeds_in_their_order(self):
        day = day_behind("leave x b ticket; come x; again b through 0; lock c 1 b; get 2; leave z d ticket")
        self.assertEqual(day.may(), deeds_in(
            "come z; walk z c; pilot b 1; give b 1; again b through 0; again c lock 1;"
            "get 0; get 1; lose 0; lose 1"
        ))
        self.assertEqual(day.may("a"), deeds_in("get 0; get 1"))
        self.assertEqual(day.may("b"), deeds_in("pilot b 1; give b 1; again b through 0"))

    def test_stops_and_help(self):
        day = day_behind("leave x b staff; walk x a; leave z b staff", [("x", "a"), ("y", "a"), ("z", "c")])
        self.assertEqual(day.may(), deeds_in("come z; walk z b; walk z c; help y x; lock c 2 d"))
        day.do(("help", "y", "x"))
        self.assertEqual(day.may(), deeds_in("come z; walk z b; walk z c; bring x a; bring x b; lock c 2 d"))

    def test_long_staffs(self):
        day = day_behind(TAKE, ends=["a", "b", "c"])
        self.assertEqual(day.may(), deeds_in(
            "leave x c long; leave y c long; leave z d staff; leave z d ticket; lock c 2 d; box a 0; again b lock 1"
        ))
        day.do(("box", "a", 0))
        self.assertIn(("again", "a", "open", 1), day.may("a"))
        self.assertIn(("unlock", "a", 0), day.may("a"))
        self.assertNotIn(("take", "a", 0), day.may())

    def test_just_those_that_are_not_refused(self):
        for seed in range(60):
            chance = random.Random(seed)
            day = chance_day(chance)
            walk(day, chance, chance.randint(0, 45))
            self.assert_just(day)

    def assert_just(self, day):
        before = everything(day)
        written = [(deed, place_written(day, deed)) for deed in all_deeds(day)]
        self.assertEqual(day.may(), [deed for deed, place in written if place is not False])
        for name in day.line().names():
            self.assertEqual(day.may(name), [deed for deed, place in written if place == name])
        self.assertEqual(everything(day), before)

    def test_no_place(self):
        refused(self, NoPlace, "found", "x", full_day().may, "x")
        refused(self, NoPlace, "found", False, full_day().may, False)
        refused(self, NoPlace, "found", 0, full_day().may, 0)
        refused(self, NoPlace, "found", "", full_day().may, "")


if __name__ == "__main__":
    unittest.main()
