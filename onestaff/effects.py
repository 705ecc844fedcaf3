"""What becomes of a scene by a deed that may be done."""


def carry_out(scene, deed):
    effect = EFFECTS[deed[0]]
    parts = deed[1:]
    effect(scene, *parts)


def _put_down(scene, key, place):
    sort, number = key
    scene.things[key] = ("at", place)
    if sort == "staff":
        # Ahead of the staff all trains came that left this place by tickets.
        scene.counts[place, number].all_through()


def _say_through(scene, place, start):
    """A train came to the place by a ticket from start."""
    k = scene.rails.between(place, start)
    # The next ticket is written only when this train is through, so its number is the last one yet.
    number = scene.counts[start, k].last()
    scene.came[place, k] = number
    scene.wire.send((place, start, "through", k, number))


def _say_open(scene, place, k, number, locker):
    """The place gave up the right of this number, by a staff that is locked at the locker."""
    if locker == place:
        scene.keepers[k].opens(number)
    else:
        scene.wire.send((place, locker, "open", k, number))


def _leave(scene, train, to, thing):
    place = scene.standing(train)
    key = scene.key_by(place, to, thing)
    scene.stands[place].remove(train)
    scene.spots[train] = ("in", place, to, thing)
    if thing == "ticket":
        scene.counts[place, key[1]].out()
    else:
        scene.things[key] = ("with", train)


def _come(scene, train):
    _, start, to, thing = scene.spots[train]
    if thing == "ticket":
        _say_through(scene, to, start)
    else:
        _put_down(scene, scene.key_of(train), to)
    scene.stand(train, to)


def _walk(scene, train, place):
    _, start, to, thing = scene.spots[train]
    scene.things[scene.key_of(train)] = ("held", place, train)
    scene.spots[train] = ("stopped", start, to, thing)


def _help(scene, helper, train):
    place = scene.standing(helper)
    _, start, to, thing = scene.spots[train]
    scene.things[scene.key_of(train)] = ("with", train)
    scene.stands[place].remove(helper)
    scene.spots[helper] = ("helping", place, train)
    scene.spots[train] = ("helped", start, to, thing, helper)


def _bring(scene, train, place):
    spot = scene.spots[train]
    start, thing, helper = spot[1], spot[3], spot[4]
    # Back at start, the staff that comes with them tells the count that the ticket's train is through.
    if thing == "ticket" and place != start:
        _say_through(scene, place, start)
    _put_down(scene, scene.key_of(train), place)
    scene.stand(train, place)
    scene.stand(helper, place)


def _lock(scene, place, k, to):
    number = scene.keepers[k].lock(to)
    if to == place:
        scene.holders[place, k].got(number, place)
    else:
        scene.wire.send((place, to, "lock", k, number))


def _pilot(scene, place, k):
    scene.holders[place, k].use()
    scene.things["pilot", k] = ("at", place)


def _unlock(scene, place, k):
    keeper = scene.keepers[k]
    pilot = scene.things["pilot", k]
    if pilot == ("at", place):
        scene.things["pilot", k] = None
        # There is no other lock than that by whose right he was appointed.
        keeper.ended(keeper.times())
    elif scene.holders[place, k].right() is not None:
        number, _ = scene.holders[place, k].use()
        keeper.ended(number)
    else:
        keeper.unlock()


def _give(scene, place, k):
    number, locker = scene.holders[place, k].give()
    _say_open(scene, place, k, number, locker)


def _take(scene, place, j):
    rights = []
    for k in scene.rails.long_stretches(j):
        number, locker = scene.holders[place, k].use()
        rights.append((k, number, locker))
    scene.rights_along[j] = tuple(rights)
    scene.things["long", j] = ("at", place)


def _box(scene, place, j):
    for k, number, locker in scene.rights_along[j]:
        scene.holders[place, k].note(number, locker)
        _say_open(scene, place, k, number, locker)
    scene.rights_along[j] = ()
    scene.things["long", j] = ("box", place)


def _again(scene, place, kind, k):
    scene.wire.send(scene.last_word(place, kind, k))


def _get(scene, number):
    giver, place, kind, k, told = scene.wire.get(number)
    if kind == "through":
        scene.counts[place, k].through(told)
    elif kind == "lock":
        scene.holders[place, k].got(told, giver)
    elif scene.staff_at(place, k):
        scene.keepers[k].opens(told)


def _lose(scene, number):
    scene.wire.lose(number)


EFFECTS = {
    "leave": _leave,
    "come": _come,
    "walk": _walk,
    "help": _help,
    "bring": _bring,
    "lock": _lock,
    "pilot": _pilot,
    "unlock": _unlock,
    "give": _give,
    "take": _take,
    "box": _box,
    "again": _again,
    "get": _get,
    "lose": _lose,
}
