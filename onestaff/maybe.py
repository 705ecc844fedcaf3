"""Where trains and staffs may be, when some entries were lost on the way to the office."""

from onestaff.books import does_at
from onestaff.days import Day
from onestaff.errors import NoRows, NotSo, NoTrain, TooMany
from onestaff.words import is_tuple

MOST_ROWS = 24
MOST_LOST = 2


def may_be(line, trains, ends, rows):
    day = Day(line, trains, ends)
    _check_rows(line, rows)
    days = [behind for behind, _ in _found(day, rows)]
    of_trains = {train: sorted({one.where(train) for one in days}) for train in day.trains()}
    of_staffs = {k: sorted({one.staff(k) for one in days}) for k in range(line.many_stretches())}
    return of_trains, of_staffs


def fills(line, trains, ends, rows, train, where):
    day = Day(line, trains, ends)
    _check_rows(line, rows)
    if train not in day.trains():
        raise NoTrain(train)
    for behind, filling in _found(day, rows):
        if behind.where(train) == where:
            return filling
    return None


def _check_rows(line, rows):
    if not isinstance(rows, (list, tuple)):
        raise NoRows(rows)
    names = line.names()
    for row in rows:
        if not is_tuple(row, 2) or row[0] not in names:
            raise NoRows(row)
    if len(rows) > MOST_ROWS:
        raise TooMany(len(rows))
    lost = len([deed for _, deed in rows if deed is None])
    if lost > MOST_LOST:
        raise TooMany(lost)


def _found(day, rows):
    """For each filling of the rows a tuple of the day behind them and the filling."""
    found = [(day, [])]
    for number, (place, deed) in enumerate(rows, start=1):
        found = _by_each(found, place) if deed is None else _by_one(found, place, deed)
        if not found:
            raise NotSo(number)
    return found


def _by_one(found, place, deed):
    """What is left of what was found, behind an entry that came to the office."""
    told = []
    for day, filling in found:
        if does_at(day, place, deed):
            told.append((day, filling))
    return told


def _by_each(found, place):
    """What is found behind a lost entry of the place, by each deed that may have been written there."""
    told = []
    for day, filling in found:
        for deed in day.may(place):
            other = day.twin()
            other.do(deed)
            told.append((other, filling + [deed]))
    return told
