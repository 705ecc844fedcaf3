"""The trains and the ends by which a day begins: what of them is refused, and where the staffs lie then."""

from onestaff.errors import Full, NoEnds, NoName, NoTrains, Twice
from onestaff.words import is_list, is_name, is_tuple


def check_trains(line, trains):
    if not is_list(trains, 1, 4):
        raise NoTrains(trains)
    ahead = []
    for train in trains:
        _check_train(line, train, ahead)
        ahead.append(train)


def _check_train(line, train, ahead):
    if not is_tuple(train, 2):
        raise NoTrains(train)
    name, place = train
    if not is_name(name):
        raise NoName(name)
    if name in [other for other, _ in ahead]:
        raise Twice(name)
    # Asked for its roads, the line itself refuses what is no place.
    if len([at for _, at in ahead if at == place]) >= line.roads(place):
        raise Full(place)


def check_ends(line, ends):
    if ends is not None and not _are_ends(line, ends):
        raise NoEnds(ends)


def _are_ends(line, ends):
    many = line.many_stretches()
    return is_list(ends, many, many) and all(end in line.ends(k) for k, end in enumerate(ends))


def staff_ends(line, ends):
    """A new list of the places where the staffs lie at first."""
    if ends is None:
        return [line.home(k) for k in range(line.many_stretches())]
    return list(ends)
