"""How a staff is brought to an end of its stretch by the fewest moves, and what shows that there are no fewer."""

from onestaff.errors import NoWay, TooMany
from onestaff.states import is_state, steps_from
from onestaff.words import is_whole

MOST_STATES = 2048


def brings(stand, k, place):
    _check_asked(stand, k, place)
    _check_small(stand)
    ways, goal = _search(stand, k, place)
    if goal is None:
        return "never", list(ways)
    return "moves", list(ways[goal])


def fewest_paper(stand, k, place):
    _check_asked(stand, k, place)
    _check_small(stand)
    ways, goal = _search(stand, k, place)
    if goal is None:
        return None
    # A move leads at most one further from the start, so the moves that are left fall by at most one.
    many = len(ways[goal])
    return {state: many - len(way) for state, way in ways.items() if len(way) < many}


def shows_fewest(stand, k, place, many, paper):
    _check_asked(stand, k, place)
    # There is no greatest number, so the number itself stands for the upper bound.
    if not is_whole(many, 0, many) or not isinstance(paper, dict):
        return False
    line, trains = stand.line(), stand.trains()
    for state, count in paper.items():
        if not is_state(line, trains, state) or not is_whole(count, 1, count) or state[1][k] == place:
            return False
    if paper.get(stand.state(), 0) != many:
        return False
    # No state counts less than 0, so moves from states that the paper does not hold need no look.
    return all(_falls_by_one(line, trains, state, paper) for state in paper)


def _falls_by_one(line, trains, state, paper):
    """Whether each move from the state leads to one that counts less by at most one."""
    least = paper[state] - 1
    return all(paper.get(behind, 0) >= least for _, behind in steps_from(line, trains, state))


def shows_never(stand, k, place, states):
    _check_asked(stand, k, place)
    line, trains = stand.line(), stand.trains()
    if not isinstance(states, (list, tuple)) or stand.state() not in states:
        return False
    if not all(is_state(line, trains, state) and state[1][k] != place for state in states):
        return False
    told = {state: True for state in states}
    return all(behind in told for state in told for _, behind in steps_from(line, trains, state))


def _check_asked(stand, k, place):
    line = stand.line()
    ends = line.ends(k)
    # Asked for its number, the line itself refuses what is no place.
    line.number_of(place)
    if place not in ends:
        raise NoWay((k, place))


def _check_small(stand):
    line = stand.line()
    many = 1
    for _ in stand.trains():
        many *= len(line.names())
    for _ in range(line.many_stretches()):
        many *= 2
    if many > MOST_STATES:
        raise TooMany(many)


def _search(stand, k, place):
    """The states that are reached, each with as few moves as lead to it; and one in which the staff lies there.

    With such a state no further ones are looked for; without one there is None in its place.
    """
    line, trains = stand.line(), stand.trains()
    ways = {stand.state(): ()}
    layer = [stand.state()]
    while layer:
        goals = [state for state in layer if state[1][k] == place]
        if goals:
            return ways, goals[0]
        layer = _new_layer(line, trains, layer, ways)
    return ways, None


def _new_layer(line, trains, layer, ways):
    """The states to which one move more leads, and no fewer; their ways are noted."""
    found = []
    for state in layer:
        for move, behind in steps_from(line, trains, state):
            if behind not in ways:
                ways[behind] = ways[state] + (move,)
                found.append(behind)
    return found
