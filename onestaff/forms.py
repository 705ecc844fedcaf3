"""Forms of rows: words with one blank between any two, where a word in capitals stands for a part of a sort."""

from onestaff.errors import NoText
from onestaff.parts import KINDS, THINGS
from onestaff.words import is_name, is_whole

MOST_NUMBER = 999999
MOST_TIME = 9999


def _is_name(thing):
    return is_name(thing)


def _is_number(thing):
    return is_whole(thing, 0, MOST_NUMBER)


def _is_time(thing):
    return is_whole(thing, 0, MOST_TIME)


def _is_thing(thing):
    return thing in THINGS


def _is_kind(thing):
    return thing in KINDS


SORTS = {"NAME": _is_name, "NUMBER": _is_number, "TIME": _is_time, "THING": _is_thing, "KIND": _is_kind}


def fits(form, parts):
    """Whether any things are, in their order, just such parts as the form asks for."""
    sorts = [word for word in form.split(" ") if word in SORTS]
    return len(sorts) == len(parts) and all(_is_of(sort, part) for sort, part in zip(sorts, parts))


def _is_of(sort, part):
    check = SORTS[sort]
    return check(part)


def write_row(form, parts):
    """The row of parts of which there are as many as the form asks for."""
    left = list(parts)
    words = []
    for word in form.split(" "):
        words.append(str(left.pop(0)) if word in SORTS else word)
    return " ".join(words)


def read_row(form, row):
    """The parts that the row writes, a tuple, where it has the form; else None."""
    asked, words = form.split(" "), row.split(" ")
    if len(asked) != len(words):
        return None
    parts = []
    for sort, word in zip(asked, words):
        if sort in SORTS:
            parts.append(_part_of(word))
        elif sort != word:
            return None
    return tuple(parts) if fits(form, parts) else None


def _part_of(word):
    """The number that the word writes by its figures, else the word itself."""
    # No form asks for a number of more figures, and of very long ones Python makes no number.
    if not 1 <= len(word) <= len(str(MOST_NUMBER)) or not all("0" <= sign <= "9" for sign in word):
        return word
    number = int(word)
    # With a nought ahead it is written otherwise.
    return number if str(number) == word else word


def rows_of(text):
    if not isinstance(text, str):
        raise NoText(0)
    # The text without signs has no rows, though a split would tell an empty one.
    return text.split("\n") if text else []


def read_rows(text, read):
    """What the rows of the text write, by a function that tells it of a row, None of one that writes nothing."""
    told = []
    for number, row in enumerate(rows_of(text), start=1):
        thing = read(row)
        if thing is None:
            raise NoText(number)
        told.append(thing)
    return told


def in_one_line(text):
    return text.replace("\n", " / ")


def in_rows(line):
    return line.replace(" / ", "\n")
