"""Days by chance, always the same ones by the same seed, and rows of deeds that may be done on them."""

from onestaff.days import Day
from onestaff.errors import StaffError
from onestaff.lines import Line

NAMES = "abcdef"
# Deeds for which much must come together are the likelier ones where they may be done.
LIKELY = {"leave": 8, "come": 6, "walk": 3, "help": 6, "bring": 6, "pilot": 3, "unlock": 4, "take": 40, "box": 3}
LIKELY["get"] = 4
LONGS = {3: [(0, 2)], 4: [(0, 2), (1, 3), (0, 3)], 5: [(0, 2), (2, 4), (0, 4)], 6: [(0, 2), (3, 5), (1, 4)]}


def chance_line(chance):
    many = chance.randint(2, 6)
    places = [(name, chance.randint(1, 3)) for name in NAMES[:many]]
    stretches = [(chance.choice(["staff", "ticket"]), chance.randint(0, 1)) for _ in range(many - 1)]
    longs = [chance.choice(LONGS[many]) + (chance.randint(0, 1),)] if many > 2 else []
    if many > 4 and chance.random() < 0.5:
        longs = [(0, 2, chance.randint(0, 1)), (many - 3, many - 1, chance.randint(0, 1))]
    return Line(places, stretches, longs)


def chance_start(chance, most=4):
    """A line, trains and ends; a train may be called like a place."""
    line = chance_line(chance)
    trains = []
    for train in chance.sample(["a", "b", "x", "y", "z"], chance.randint(1, most)):
        free = [name for name in line.names() if len([1 for _, at in trains if at == name]) < line.roads(name)]
        if free:
            trains.append((train, chance.choice(free)))
    ends = [chance.choice(line.ends(k)) for k in range(line.many_stretches())]
    return line, trains, chance.choice([None, ends])


def chance_day(chance):
    return Day(*chance_start(chance))


def chance_deed(day, chance):
    """A deed that may be done, None where there is none."""
    deeds = day.may()
    words = sorted({deed[0] for deed in deeds})
    if not words:
        return None
    word = chance.choices(words, [LIKELY.get(word, 1) for word in words])[0]
    by_long = [deed for deed in deeds if deed[0] == word == "leave" and deed[3] == "long"]
    return chance.choice(by_long or [deed for deed in deeds if deed[0] == word])


def lock_for_long(day, chance):
    """Locks, as far as it may be done, the staffs of a long stretch for the place where its staff lies."""
    if not day.line().many_longs():
        return
    j = chance.randrange(day.line().many_longs())
    to = day.long_staff(j)[1]
    for k in day.line().long_stretches(j):
        deed = ("lock", day.staff(k)[1], k, to)
        if deed in day.may():
            day.do(deed)
    for number, word in day.words():
        if word[2] == "lock":
            day.do(("get", number))


def walk(day, chance, steps):
    if chance.random() < 0.6:
        lock_for_long(day, chance)
    for _ in range(steps):
        deed = chance_deed(day, chance)
        if deed is not None:
            day.do(deed)


def all_deeds(day):
    """All deeds whose parts there are, in the order of point 49."""
    line = day.line()
    trains, places = day.trains(), line.names()
    stretches, longs = range(line.many_stretches()), range(line.many_longs())
    words = [number for number, _ in day.words()]
    things, kinds = ("staff", "ticket", "pilot", "long"), ("through", "lock", "open")
    told = [("leave", train, to, thing) for train in trains for to in places for thing in things]
    told += [("come", train) for train in trains]
    told += [("walk", train, place) for train in trains for place in places]
    told += [("help", helper, train) for helper in trains for train in trains]
    told += [("bring", train, place) for train in trains for place in places]
    told += [("lock", place, k, to) for place in places for k in stretches for to in places]
    for word in ("pilot", "unlock", "give"):
        told += [(word, place, k) for place in places for k in stretches]
    for word in ("take", "box"):
        told += [(word, place, j) for place in places for j in longs]
    told += [("again", place, kind, k) for place in places for kind in kinds for k in stretches]
    return told + [(word, number) for word in ("get", "lose") for number in words]


def place_written(day, deed):
    """The place whose book grows by the deed, on a twin; None where no book grows, False where it is refused."""
    twin = day.twin()
    try:
        told = twin.do(deed)
    except StaffError:
        return False
    grown = [name for name in day.line().names() if len(twin.book(name)) > len(day.book(name))]
    return None if told is None else grown[0]
