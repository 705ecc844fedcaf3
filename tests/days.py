"""Days to begin with, deeds from short texts, and what a deed changes, for the tests of days."""

import unittest

from onestaff.days import Day
from onestaff.errors import StaffError
from onestaff.lines import Line

# a - b: 0, tickets; b - c: 1, the staff alone; c - d: 2, tickets; the long one goes from a to c.
PLACES = [("a", 2), ("b", 3), ("c", 2), ("d", 1)]
STRETCHES = [("ticket", 0), ("staff", 1), ("ticket", 0)]
LONGS = [(0, 2, 0)]
TRAINS = [("x", "a"), ("y", "a"), ("z", "c")]

# The staffs 0 and 1 are locked for a, and the long staff is taken there: ends must be a and b.
TAKE = "lock a 0 a; lock b 1 a; get 0; take a 0"


def full_line():
    return Line(PLACES, STRETCHES, LONGS)


def full_day(trains=None, ends=None):
    return Day(full_line(), TRAINS if trains is None else trains, ends)


def deeds_in(text):
    """The deeds of a text like "leave x b staff; get 0"."""
    rows = [row.split() for row in text.split(";") if row.strip()]
    return [tuple(int(word) if word.isdigit() else word for word in row) for row in rows]


def day_behind(text, trains=None, ends=None):
    day = full_day(trains, ends)
    for deed in deeds_in(text):
        day.do(deed)
    return day


def answers(day):
    """What the day tells of all but its books, by the questions."""
    names, stretches = day.line().names(), range(day.line().many_stretches())
    told = {f"where {train}": day.where(train) for train in day.trains()}
    told["words"] = day.words()
    for name in names:
        told[f"at {name}"] = day.at(name)
        told.update({f"known {name} {k}": day.known(name)[k] for k in stretches})
    for k in stretches:
        told.update({f"staff {k}": day.staff(k), f"pilot {k}": day.pilot(k), f"lock {k}": day.lock_of(k)})
    told.update({f"long {j}": day.long_staff(j) for j in range(day.line().many_longs())})
    return told


def written(day):
    """What the day tells of its books."""
    return day.done(), day.deeds(), {name: day.book(name) for name in day.line().names()}


def everything(day):
    return day.told(), answers(day), written(day), day.may(), [day.rights(name) for name in day.line().names()]


class DayCase(unittest.TestCase):
    def refused(self, day, error, found, *texts):
        """Each of the deeds that the texts write is refused so, and changes nothing."""
        for text in texts:
            for deed in deeds_in(text):
                self.refused_thing(day, error, found, deed)

    def refused_thing(self, day, error, found, thing):
        before = everything(day)
        with self.assertRaises(StaffError, msg=thing) as caught:
            day.do(thing)
        refusal = caught.exception
        self.assertEqual((type(refusal), refusal.found), (error, found), thing)
        self.assertEqual(type(refusal.found), type(found), thing)
        self.assertEqual(everything(day), before, thing)

    def done(self, day, place, text, **changes):
        """The deed is written at the place, and changes just what is told; where_x stands for "where x"."""
        deed = deeds_in(text)[0]
        before = answers(day)
        number, deeds, books = written(day)
        told = day.do(deed)
        books[place].append((number + 1, deed))
        self.assertEqual(told, number + 1)
        self.assertEqual(written(day), (number + 1, deeds + [deed], books))
        after = answers(day)
        self.assertEqual(
            {key: worth for key, worth in after.items() if worth != before[key]},
            {key.replace("_", " "): worth for key, worth in changes.items()},
        )
