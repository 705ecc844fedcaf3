"""For what a deed is refused, and in the book of which place it would be written."""

from onestaff.errors import Boxed, Full, Held, Lacks, NoRight, NoTickets, NotClear, NotHeld, NotHelped, NotHere
from onestaff.errors import NotIn, NotShut, NoUse, NoWay, Shut, Silent, Taken
from onestaff.parts import check_parts
from onestaff.scenes import lies_at


def written_at(scene, deed):
    """The place in whose book the deed would be written, None for a lost word; refuses what may not be done."""
    check_parts(scene, deed)
    return place_of(scene, deed)


def place_of(scene, deed):
    """As written_at, of a deed whose parts there are."""
    allowed = ALLOWED[deed[0]]
    parts = deed[1:]
    return allowed(scene, *parts)


def _check_free(spot):
    """Of the spot of a thing that lies somewhere."""
    if spot[0] == "held":
        raise Held(spot[2])


def _check_usable(scene, place, k):
    """Of a staff that lies at the place: only as such may it, or a ticket, or a lock's word leave."""
    if scene.keepers[k].locked() is not None:
        raise Shut(k)
    _check_free(scene.things["staff", k])
    count = scene.counts[place, k]
    if not count.clear():
        raise NotClear(count.last())


def _check_staff_at(scene, place, k):
    if not scene.staff_at(place, k):
        raise Lacks("staff")


def _check_end(scene, place, train):
    """Of a train that is in a stretch."""
    if place not in scene.spots[train][1:3]:
        raise NoWay((train, place))


def _leave(scene, train, to, thing):
    place = scene.standing(train)
    if place is None:
        raise NotHere(train)
    sort, number = scene.key_by(place, to, thing)
    if number is None:
        raise NoWay((place, to))
    if thing == "ticket" and scene.rails.kind(number) == "staff":
        raise NoTickets(number)
    spot = scene.things[sort, number]
    if not lies_at(spot, place):
        raise Lacks(thing)
    if sort == "staff":
        _check_usable(scene, place, number)
    elif spot[0] == "box":
        raise Boxed(number)
    else:
        _check_free(spot)
    return place


def _come(scene, train):
    spot = scene.spots[train]
    if spot[0] != "in":
        raise NotIn(train)
    if scene.free_roads(spot[2]) < 1:
        raise Full(spot[2])
    return spot[2]


def _walk(scene, train, place):
    spot = scene.spots[train]
    if spot[0] != "in":
        raise NotIn(train)
    _check_end(scene, place, train)
    # A ticket is worth nothing by itself: its staff lies at the place that the train left.
    if spot[3] == "ticket" and place != spot[1]:
        raise NoWay((train, place))
    return place


def _help(scene, helper, train):
    place = scene.standing(helper)
    if place is None:
        raise NotHere(helper)
    if scene.spots[train][0] != "stopped" or not lies_at(scene.things[scene.key_of(train)], place):
        raise NotHeld(train)
    return place


def _bring(scene, train, place):
    if scene.spots[train][0] != "helped":
        raise NotHelped(train)
    _check_end(scene, place, train)
    if scene.free_roads(place) < 2:
        raise Full(place)
    return place


def _lock(scene, place, k, to):
    _check_staff_at(scene, place, k)
    j = scene.rails.long_of(k)
    long_ends = () if j is None else scene.rails.long_ends(j)
    if to != scene.other_end(place, k) and to not in long_ends:
        raise NoUse(to)
    _check_usable(scene, place, k)
    return place


def _pilot(scene, place, k):
    if place not in scene.rails.ends(k):
        raise NoUse(place)
    return _give(scene, place, k)


def _unlock(scene, place, k):
    _check_staff_at(scene, place, k)
    keeper = scene.keepers[k]
    if keeper.locked() is None:
        raise NotShut(k)
    pilot = scene.things["pilot", k]
    if lies_at(pilot, place):
        _check_free(pilot)
    elif scene.holders[place, k].right() is None and not keeper.is_open():
        raise NoRight(k)
    return place


def _give(scene, place, k):
    if scene.holders[place, k].right() is None:
        raise NoRight(k)
    return place


def _check_long_at(scene, place, j):
    if not lies_at(scene.things["long", j], place):
        raise Lacks("long")


def _take(scene, place, j):
    _check_long_at(scene, place, j)
    if scene.things["long", j][0] != "box":
        raise Taken(j)
    for k in scene.rails.long_stretches(j):
        _give(scene, place, k)
    return place


def _box(scene, place, j):
    _check_long_at(scene, place, j)
    spot = scene.things["long", j]
    if spot[0] == "box":
        raise Boxed(j)
    _check_free(spot)
    return place


def _again(scene, place, kind, k):
    if scene.last_word(place, kind, k) is None:
        raise Silent((kind, k))
    return place


def _get(scene, number):
    return scene.wire.word(number)[1]


def _lose(_scene, _number):
    # That a word is lost nobody knows, so no book tells it.
    return None


ALLOWED = {
    "leave": _leave,
    "come": _come,
    "walk": _walk,
    "help": _help,
    "bring": _bring,
    "lock": _lock,
    "pilot": _pilot,
    "unlock": _unlock,
    "give": _give,
    "take": _take,
    "box": _box,
    "again": _again,
    "get": _get,
    "lose": _lose,
}
