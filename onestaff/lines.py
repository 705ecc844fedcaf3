"""A line: places in a row, the stretches between them, and long stretches."""

from onestaff.errors import NoLong, NoLongs, NoName, NoNumber, NoPlace, NoPlaces
from onestaff.errors import NoStretch, NoStretches, Twice
from onestaff.words import is_list, is_name, is_tuple, is_whole


def _check_places(places):
    if not is_list(places, 2, 6):
        raise NoPlaces(places)
    ahead = []
    for place in places:
        _check_place(place, ahead)
        ahead.append(place[0])


def _check_place(place, ahead):
    if not is_tuple(place, 2):
        raise NoPlaces(place)
    name, roads = place
    if not is_name(name):
        raise NoName(name)
    if name in ahead:
        raise Twice(name)
    if not is_whole(roads, 1, 3):
        raise NoNumber(roads)


def _check_stretches(stretches, many):
    if not is_list(stretches, many, many):
        raise NoStretches(stretches)
    for stretch in stretches:
        if not _is_stretch(stretch):
            raise NoStretches(stretch)


def _is_stretch(thing):
    if not is_tuple(thing, 2):
        return False
    kind, home = thing
    return kind in ("staff", "ticket") and is_whole(home, 0, 1)


def _check_longs(longs, top):
    if not is_list(longs, 0, 2):
        raise NoLongs(longs)
    low = 0
    for long in longs:
        if not _is_long(long, low, top):
            raise NoLongs(long)
        low = long[1]


def _is_long(thing, low, top):
    """Whether it is a long stretch between the places low and top, both counted."""
    if not is_tuple(thing, 3):
        return False
    first, last, home = thing
    return is_whole(first, low, top) and is_whole(last, first + 2, top) and is_whole(home, 0, 1)


class Line:
    """A line never changes: each method that tells another line makes a new one."""

    def __init__(self, places, stretches, longs=None):
        _check_places(places)
        top = len(places) - 1
        _check_stretches(stretches, top)
        rows = () if longs is None else longs
        _check_longs(rows, top)
        self._places = tuple(places)
        self._stretches = tuple(stretches)
        self._longs = tuple(rows)
        self._numbers = {name: number for number, (name, _) in enumerate(places)}

    def names(self):
        return [name for name, _ in self._places]

    def roads(self, name):
        return self._places[self.number_of(name)][1]

    def number_of(self, name):
        # A list or a dict may be asked for, too, and is no key of a dict.
        if not isinstance(name, str) or name not in self._numbers:
            raise NoPlace(name)
        return self._numbers[name]

    def many_stretches(self):
        return len(self._stretches)

    def ends(self, k):
        self._check_stretch(k)
        return self._places[k][0], self._places[k + 1][0]

    def kind(self, k):
        self._check_stretch(k)
        return self._stretches[k][0]

    def home(self, k):
        return self.ends(k)[self._stretches[k][1]]

    def _check_stretch(self, k):
        if not is_whole(k, 0, len(self._stretches) - 1):
            raise NoStretch(k)

    def between(self, one, other):
        number = self.number_of(one)
        apart = self.number_of(other) - number
        if apart == 1:
            return number
        if apart == -1:
            return number - 1
        return None

    def many_longs(self):
        return len(self._longs)

    def long_ends(self, j):
        first, last, _ = self._long(j)
        return self._places[first][0], self._places[last][0]

    def long_stretches(self, j):
        first, last, _ = self._long(j)
        return list(range(first, last))

    def long_home(self, j):
        return self.long_ends(j)[self._longs[j][2]]

    def _long(self, j):
        if not is_whole(j, 0, len(self._longs) - 1):
            raise NoLong(j)
        return self._longs[j]

    def long_between(self, one, other):
        asked = sorted([self.number_of(one), self.number_of(other)])
        for j, (first, last, _) in enumerate(self._longs):
            if asked == [first, last]:
                return j
        return None

    def long_of(self, k):
        self._check_stretch(k)
        for j, (first, last, _) in enumerate(self._longs):
            if first <= k < last:
                return j
        return None

    def told(self):
        return self._places, self._stretches, self._longs

    def mirrored(self):
        top = len(self._places) - 1
        stretches = [(kind, 1 - home) for kind, home in self._stretches[::-1]]
        longs = [(top - last, top - first, 1 - home) for first, last, home in self._longs[::-1]]
        return Line(self._places[::-1], stretches, longs)

    def renamed(self, names):
        if not isinstance(names, dict):
            raise NoName(names)
        # The new line itself refuses what is no name or a name that stands there twice.
        return Line([(names.get(name, name), roads) for name, roads in self._places], self._stretches, self._longs)
