"""Whether a timetable can be kept, by staffs and tickets alone, what bars it, and the deeds that keep it."""

from onestaff.errors import NoState
from onestaff.runs import in_order, runs_of


def looked(stand, runs):
    return _looked(stand, runs_of(stand, runs))


def is_bar(stand, runs, thing):
    bars = _bars(stand, runs_of(stand, runs))
    # True and False are equal to 1 and 0, but no numbers of stretches and runs.
    return thing in bars and not any(isinstance(part, bool) for part in thing)


def deeds_by(stand, runs):
    table = runs_of(stand, runs)
    told = _looked(stand, table)
    if told[0] != "kept":
        raise NoState(told)
    return _deeds(table, told[1])


def _looked(stand, runs):
    bars = _bars(stand, runs)
    return bars[0] if bars else ("kept", _things(stand.line(), runs))


def _through(line, runs, k):
    """The runs through the stretch, in the order in which they go."""
    return [run for run in in_order(runs) if line.between(run.begin, run.to) == k]


def _things(line, runs):
    """By the numbers of the runs the things by which they go, where there is no bar."""
    things = ["staff" for _ in runs]
    for k in range(line.many_stretches()):
        ahead = _through(line, runs, k)
        for one, other in zip(ahead, ahead[1:]):
            # The staff stays for a train that goes the same way next.
            if one.begin == other.begin:
                things[one.number] = "ticket"
    return things


def _bars(stand, runs):
    """All bars, the first one first."""
    told = []
    for k in range(stand.line().many_stretches()):
        told.extend(_stretch_bars(stand, runs, k))
    return told + _full_bars(stand, runs)


def _stretch_bars(stand, runs, k):
    line = stand.line()
    through = _through(line, runs, k)
    told = [("wrong", k, run.number) for run in through[:1] if run.begin != stand.staff_at(k)]
    for one, other in zip(through, through[1:]):
        if other.leave < one.arrive:
            told.append(("meet", k, one.number, other.number))
        if one.begin == other.begin and line.kind(k) == "staff":
            told.append(("follow", k, one.number, other.number))
    return told


def _full_bars(stand, runs):
    told = []
    for run in sorted(runs, key=lambda one: (one.arrive, one.number)):
        places = [_place_at_arrival(stand, runs, train, run) for train in stand.trains()]
        if places.count(run.to) >= stand.line().roads(run.to):
            told.append(("full", run.to, run.number))
    return told


def _place_at_arrival(stand, runs, train, run):
    """Where the train stands as the run comes, None where it is in a stretch."""
    place = stand.place_of(train)
    for other in in_order(runs):
        if other.train != train:
            continue
        if (other.arrive, other.number) < (run.arrive, run.number):
            place = other.to
        elif other.leave < run.arrive:
            return None
    return place


def _deeds(runs, things):
    """Of runs that are kept, by these things."""
    told = []
    said = 0
    for time in sorted(set([run.leave for run in runs] + [run.arrive for run in runs])):
        for run in [one for one in runs if one.arrive == time]:
            told.append((time, ("come", run.train)))
            if things[run.number] == "ticket":
                # Each word is got at once, so no other words are said, and each has the next number.
                told.append((time, ("get", said)))
                said += 1
        for run in [one for one in runs if one.leave == time]:
            told.append((time, ("leave", run.train, run.to, things[run.number])))
    return told
