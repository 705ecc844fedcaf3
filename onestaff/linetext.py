"""A line as a text: a row of words for each place, then for each stretch, then for each long stretch."""

from onestaff.errors import NoText
from onestaff.forms import rows_of
from onestaff.lines import Line
from onestaff.words import is_name

SORTS = ("place", "stretch", "long")
SIDES = ("low", "high")


def show_line(line):
    places, stretches, longs = line.told()
    rows = [f"place {name} {roads}" for name, roads in places]
    rows += [f"stretch {kind} {SIDES[home]}" for kind, home in stretches]
    rows += [f"long {places[first][0]} {places[last][0]} {SIDES[home]}" for first, last, home in longs]
    return "\n".join(rows)


def read_line(text):
    rows = rows_of(text)
    ahead = 0
    for number, row in enumerate(rows, start=1):
        sort = line_sort(row)
        if sort is None or sort < ahead:
            raise NoText(number)
        ahead = sort
    return line_of_rows(rows)


def line_sort(row):
    """The number in SORTS of what the row writes, None where it has none of the forms."""
    words = row.split(" ")
    if words[0] not in SORTS:
        return None
    sort = SORTS.index(words[0])
    forms = (_is_place, _is_stretch, _is_long)
    has_form = forms[sort]
    return sort if has_form(words) else None


def _is_place(words):
    return len(words) == 3 and is_name(words[1]) and len(words[2]) == 1 and "0" <= words[2] <= "9"


def _is_stretch(words):
    return len(words) == 3 and words[1] in ("staff", "ticket") and words[2] in SIDES


def _is_long(words):
    return len(words) == 4 and is_name(words[1]) and is_name(words[2]) and words[3] in SIDES


def line_of_rows(rows):
    """The line of rows that have the forms and stand in their order; refuses as the line does."""
    parted = [row.split(" ") for row in rows]
    places = [(words[1], int(words[2])) for words in parted if words[0] == "place"]
    stretches = [(words[1], SIDES.index(words[2])) for words in parted if words[0] == "stretch"]
    # Long stretches are written by names, so the line without them tells the numbers first.
    line = Line(places, stretches)
    longs = [_long_of_words(line, words) for words in parted if words[0] == "long"]
    return Line(places, stretches, longs)


def _long_of_words(line, words):
    return line.number_of(words[1]), line.number_of(words[2]), SIDES.index(words[3])
