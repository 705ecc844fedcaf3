"""Runs: what of a timetable is refused, and the order in which runs go."""

from onestaff.errors import NoRun, NoRuns, NoTrip
from onestaff.words import is_list, is_tuple, is_whole

MOST_RUNS = 24
LAST_TIME = 9999


class Run:
    """One run, with its number in the list that was handed in."""

    def __init__(self, number, run):
        self.number = number
        self.train, self.begin, self.to, self.leave, self.arrive = run


def runs_of(stand, things):
    """The runs by their numbers; refuses what are no runs, and a run that does not begin where its train is."""
    if not is_list(things, 0, MOST_RUNS):
        raise NoRuns(things)
    for thing in things:
        if not _is_run(stand, thing):
            raise NoRun(thing)
    runs = [Run(number, thing) for number, thing in enumerate(things)]
    _check_trips(stand, runs)
    return runs


def in_order(runs):
    return sorted(runs, key=lambda run: (run.leave, run.number))


def _is_run(stand, thing):
    if not is_tuple(thing, 5):
        return False
    train, start, to, leave, arrive = thing
    if train not in stand.trains() or not _are_neighbours(stand.line(), start, to):
        return False
    return is_whole(leave, 0, LAST_TIME) and is_whole(arrive, leave + 1, LAST_TIME)


def _are_neighbours(line, one, other):
    names = line.names()
    return one in names and other in names and line.between(one, other) is not None


def _check_trips(stand, runs):
    places = {train: stand.place_of(train) for train in stand.trains()}
    since = {train: 0 for train in places}
    for run in in_order(runs):
        if run.begin != places[run.train] or run.leave < since[run.train]:
            raise NoTrip(run.number)
        places[run.train] = run.to
        since[run.train] = run.arrive
