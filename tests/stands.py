"""Stands by chance, always the same ones by the same seed, and a walk over states, for the tests of stands."""

from onestaff.stands import Stand
from tests.walks import chance_start


def chance_stand(chance, most=4):
    return Stand(*chance_start(chance, most))


def stand_in(stand, state):
    """The stand of the same line and trains in another state."""
    return Stand(stand.line(), list(zip(stand.trains(), state[0])), state[1])


def moves_told(line, trains, state):
    """All moves and the states behind them, straight by the words of point 82."""
    stands, staffs = state
    names = line.names()
    told = []
    for n, train in enumerate(trains):
        at = names.index(stands[n])
        for near in (at - 1, at + 1):
            if not 0 <= near < len(names):
                continue
            k, to = min(at, near), names[near]
            if staffs[k] != stands[n] or stands.count(to) == line.roads(to):
                continue
            moved = tuple(to if m == n else place for m, place in enumerate(stands))
            brought = tuple(to if m == k else place for m, place in enumerate(staffs))
            told.append(((train, to, "staff"), (moved, brought)))
            if line.kind(k) == "ticket":
                told.append(((train, to, "ticket"), (moved, staffs)))
    return told


def reached(stand):
    """All states to which moves lead, and by how many at least."""
    line, trains = stand.line(), stand.trains()
    many = {stand.state(): 0}
    ahead = [stand.state()]
    while ahead:
        state = ahead.pop(0)
        for _, behind in moves_told(line, trains, state):
            if behind not in many:
                many[behind] = many[state] + 1
                ahead.append(behind)
    return many
