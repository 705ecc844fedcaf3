"""States: where trains stand and where staffs lie, all at rest, and the moves from one state to another.

A state is a tuple of two tuples: the places of the trains, and the places of the staffs.
"""

from onestaff.words import is_tuple


def is_state(line, trains, thing):
    """Of any thing, whether it is a state of the line and of so many trains."""
    if not is_tuple(thing, 2):
        return False
    stands, staffs = thing
    if not is_tuple(stands, len(trains)) or not is_tuple(staffs, line.many_stretches()):
        return False
    return _may_stand(line, stands) and all(end in line.ends(k) for k, end in enumerate(staffs))


def _may_stand(line, stands):
    names = line.names()
    return all(place in names and stands.count(place) <= line.roads(place) for place in stands)


def hindrance(line, state, start, to):
    """What hinders a train that stands at start from going to the neighbour `to`; None where nothing does."""
    stands, staffs = state
    k = line.between(start, to)
    if staffs[k] != start:
        return "staff", k, staffs[k]
    if stands.count(to) >= line.roads(to):
        return "full", to
    return None


def steps_from(line, trains, state):
    """All moves from the state, in their order: tuples of a move and the state behind it."""
    told = []
    for number, train in enumerate(trains):
        start = state[0][number]
        for to in _neighbours(line, start):
            if hindrance(line, state, start, to) is None:
                told.extend([((train, to, thing), behind) for thing, behind in _behind(line, state, number, to)])
    return told


def _neighbours(line, place):
    names = line.names()
    number = line.number_of(place)
    return names[max(0, number - 1):number] + names[number + 1:number + 2]


def _behind(line, state, number, to):
    """For each thing by which the train of this number may go there, a tuple of it and the state behind."""
    stands, staffs = state
    k = line.between(stands[number], to)
    moved = stands[:number] + (to,) + stands[number + 1:]
    told = [("staff", (moved, staffs[:k] + (to,) + staffs[k + 1:]))]
    if line.kind(k) == "ticket":
        told.append(("ticket", (moved, staffs)))
    return told
