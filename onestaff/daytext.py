"""Starts and days as texts: the rows of the line, then of the trains, of the ends, and of the deeds."""

from onestaff.deedtext import deed_of_row, log_text
from onestaff.errors import NoText
from onestaff.forms import read_row, rows_of, write_row
from onestaff.linetext import line_of_rows, line_sort, show_line
from onestaff.starts import check_ends, check_trains, staff_ends

TRAIN = "train NAME at NAME"
END = "end NUMBER at NAME"

# The sorts of rows in their order, behind those of the line, which are numbered from 0 to 2.
TRAINS = 3
ENDS = 4
DEEDS = 5


def start_text(line, trains, ends=None):
    check_trains(line, trains)
    check_ends(line, ends)
    rows = [show_line(line)]
    rows += [write_row(TRAIN, train) for train in trains]
    rows += [write_row(END, end) for end in enumerate(staff_ends(line, ends))]
    return "\n".join(rows)


def day_text(line, trains, ends, deeds):
    start = start_text(line, trains, ends)
    log = log_text(deeds)
    return start + "\n" + log if log else start


def read_start(text):
    line, trains, ends, _ = _read(text, ENDS)
    return line, trains, ends


def read_day(text):
    return _read(text, DEEDS)


def _read(text, last):
    rows = rows_of(text)
    sorts = _sorts(rows, last)
    line = line_of_rows([row for sort, row in zip(sorts, rows) if sort < TRAINS])
    trains = [read_row(TRAIN, row) for sort, row in zip(sorts, rows) if sort == TRAINS]
    ends = [read_row(END, row)[1] for sort, row in zip(sorts, rows) if sort == ENDS]
    check_trains(line, trains)
    check_ends(line, ends)
    return line, trains, ends, [deed_of_row(row) for sort, row in zip(sorts, rows) if sort == DEEDS]


def _sorts(rows, last):
    """The sort of each row; refuses the first one that has no form or stands out of order."""
    sorts = [0]
    for number, row in enumerate(rows, start=1):
        sort = _sort_of(row, sorts.count(ENDS))
        if sort is None or not sorts[-1] <= sort <= last:
            raise NoText(number)
        sorts.append(sort)
    return sorts[1:]


def _sort_of(row, many_ends):
    """None where the row has none of the forms, or is that of an end whose turn is not yet or was already."""
    sort = line_sort(row)
    if sort is not None:
        return sort
    if read_row(TRAIN, row) is not None:
        return TRAINS
    end = read_row(END, row)
    if end is not None:
        return ENDS if end[0] == many_ends else None
    return None if deed_of_row(row) is None else DEEDS
