"""The words of the deeds, and the parts of each: which are some, and which there are."""

from onestaff.errors import NoDeed, NoKind, NoThing

THINGS = ("staff", "ticket", "pilot", "long")
KINDS = ("through", "lock", "open")

# In the order in which the deeds are told that may be done.
PARTS = {
    "leave": ("train", "place", "thing"),
    "come": ("train",),
    "walk": ("train", "place"),
    "help": ("train", "train"),
    "bring": ("train", "place"),
    "lock": ("place", "stretch", "place"),
    "pilot": ("place", "stretch"),
    "unlock": ("place", "stretch"),
    "give": ("place", "stretch"),
    "take": ("place", "long"),
    "box": ("place", "long"),
    "again": ("place", "kind", "stretch"),
    "get": ("word",),
    "lose": ("word",),
}


def _check_train(scene, part):
    scene.check_train(part)


def _check_place(scene, part):
    scene.rails.number_of(part)


def _check_thing(_, part):
    if part not in THINGS:
        raise NoThing(part)


def _check_stretch(scene, part):
    scene.rails.ends(part)


def _check_long(scene, part):
    scene.rails.long_ends(part)


def _check_kind(_, part):
    if part not in KINDS:
        raise NoKind(part)


def _check_word(scene, part):
    scene.wire.word(part)


CHECKS = {
    "train": _check_train,
    "place": _check_place,
    "thing": _check_thing,
    "stretch": _check_stretch,
    "long": _check_long,
    "kind": _check_kind,
    "word": _check_word,
}


def check_parts(scene, deed):
    """Refuses what is no deed, then the first part that is none."""
    if not _has_form(deed):
        raise NoDeed(deed)
    for sort, part in zip(PARTS[deed[0]], deed[1:]):
        check = CHECKS[sort]
        check(scene, part)


def _has_form(thing):
    if not isinstance(thing, tuple) or not thing or not isinstance(thing[0], str):
        return False
    return thing[0] in PARTS and len(thing) == 1 + len(PARTS[thing[0]])


def possible_deeds(scene):
    """All deeds whose parts there are, in order, whether they may be done or not."""
    choices = _choices(scene)
    told = []
    for word in PARTS:
        deeds = [(word,)]
        for sort in PARTS[word]:
            deeds = [deed + (part,) for deed in deeds for part in choices[sort]]
        told.extend(deeds)
    return told


def _choices(scene):
    line = scene.rails
    return {
        "train": list(scene.spots),
        "place": line.names(),
        "thing": THINGS,
        "stretch": list(range(line.many_stretches())),
        "long": list(range(line.many_longs())),
        "kind": KINDS,
        "word": [number for number, _ in scene.wire.under_way()],
    }
