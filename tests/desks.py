"""Desks to begin with, and what they tell, for the tests of desks."""

import unittest

from onestaff.daytext import day_text
from onestaff.desk import Desk
from onestaff.errors import NoLine, StaffError
from tests.test_daytext import START
from tests.things import refused

BEGIN = "start " + START.replace("\n", " / ")
OTHER = "start place a 1 / place b 1 / stretch staff low / train q at a / end 0 at a"

# A line of each form of a question, and as many words as are parts.
ASKED = [
    "where x", "staff 0", "pilot 0", "long 0", "at a", "inside 0", "rights a", "pending a 0", "words", "book a", "done",
    "may", "may a", "show", "spots x 1", "spots x 1 1", "wrong x b", "brings 0 b", "table x a b 0 5", "table ",
]


def desk_behind(text, begin=BEGIN):
    """A desk at which a day was begun and the deeds of a text like "come x; get 0" were done."""
    desk = Desk()
    tell(desk, begin, *[row.strip() for row in text.split(";") if row.strip()])
    return desk


def tell(desk, *lines):
    for line in lines:
        told = desk.say(line)
        if told != "ok":
            raise AssertionError(f"{line}: {told}")


def desk_with(day):
    """A desk at which a day was begun and did as this one."""
    desk = Desk()
    tell(desk, "start " + shown(day))
    return desk


def shown(day):
    return day_text(day.line(), *day.begun(), day.deeds()).replace("\n", " / ")


def seen(desk):
    """All that a desk tells of its day."""
    told = []
    for line in ["show", "done", "words", "may", "where x", "where y", "where z", "where q"]:
        told.append(asked(desk, line))
    for place in "abcd":
        told += [asked(desk, f"{word} {place}") for word in ("at", "book", "rights", "may")]
        told += [asked(desk, f"pending {place} {k}") for k in range(3)]
    for k in range(3):
        told += [asked(desk, f"{word} {k}") for word in ("staff", "pilot", "long", "inside")]
    return told


def asked(desk, line):
    """The answer, or what the line is refused with."""
    try:
        return desk.say(line)
    except StaffError as refusal:
        return type(refusal)


class DeskCase(unittest.TestCase):
    def refused(self, desk, error, field, found, *lines):
        for line in lines:
            before = seen(desk)
            with self.assertRaises(StaffError, msg=line) as caught:
                desk.say(line)
            self.assertIs(type(caught.exception), error, line)
            if field is not None:
                self.assertEqual(getattr(caught.exception, field), found, line)
                self.assertIs(type(getattr(caught.exception, field)), type(found), line)
            self.assertEqual(seen(desk), before, line)

    def found(self, desk, error, found, *lines):
        self.refused(desk, error, "found", found, *lines)

    def no_line(self, desk, *lines):
        for line in lines:
            refused(self, NoLine, "found", line, desk.say, line)

    def bare(self, desk, error, *lines):
        self.refused(desk, error, None, None, *lines)
