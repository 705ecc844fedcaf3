"""A stand: all trains stand and all staffs lie free at ends; and the moves that lead from one to another."""

from onestaff.days import Day
from onestaff.errors import NoMove, NoState, NoStretch, NoTrain, NoWay
from onestaff.starts import check_ends, check_trains, staff_ends
from onestaff.states import hindrance, steps_from
from onestaff.words import is_whole


class Stand:
    """A stand never changes: a move tells a new one."""

    def __init__(self, line, trains, ends=None):
        check_trains(line, trains)
        check_ends(line, ends)
        self._line = line
        self._trains = tuple([train for train, _ in trains])
        self._state = tuple([place for _, place in trains]), tuple(staff_ends(line, ends))

    def line(self):
        return self._line

    def trains(self):
        return list(self._trains)

    def place_of(self, train):
        if train not in self._trains:
            raise NoTrain(train)
        return self._state[0][self._trains.index(train)]

    def staff_at(self, k):
        staffs = self._state[1]
        if not is_whole(k, 0, len(staffs) - 1):
            raise NoStretch(k)
        return staffs[k]

    def state(self):
        return self._state

    def start(self):
        stands, staffs = self._state
        return Day(self._line, list(zip(self._trains, stands)), staffs)

    def moves(self):
        return [move for move, _ in steps_from(self._line, self._trains, self._state)]

    def moved(self, move):
        for one, (stands, staffs) in steps_from(self._line, self._trains, self._state):
            if one == move:
                return Stand(self._line, list(zip(self._trains, stands)), staffs)
        raise NoMove(move)


def stand_of(day):
    if not _is_at_rest(day):
        raise NoState(day)
    trains = [(train, day.where(train)[1]) for train in day.trains()]
    line = day.line()
    return Stand(line, trains, [day.staff(k)[1] for k in range(line.many_stretches())])


def _is_at_rest(day):
    names = day.line().names()
    stretches = range(day.line().many_stretches())
    spots = [day.where(train) for train in day.trains()] + [day.staff(k) for k in stretches]
    counts = [day.pending(name, k) for name in names for k in stretches]
    return all(spot[0] == "at" for spot in spots) and all(count is None for count in counts)


def wrong(stand, train, to):
    start = stand.place_of(train)
    line = stand.line()
    # Asked for what lies between, the line itself refuses what is no place.
    if line.between(start, to) is None:
        raise NoWay((start, to))
    return hindrance(line, stand.state(), start, to)
