"""A day: trains, words and things on a line, the deeds that are done, and the books in which they are written."""

from onestaff.checks import place_of, written_at
from onestaff.effects import carry_out
from onestaff.errors import StaffError
from onestaff.parts import possible_deeds
from onestaff.scenes import Scene
from onestaff.starts import check_ends, check_trains, staff_ends


class Day:
    def __init__(self, line, trains, ends=None):
        check_trains(line, trains)
        check_ends(line, ends)
        self._line = line
        self._starts = tuple(trains)
        self._ends = staff_ends(line, ends)
        self._scene = Scene(line, self._starts, self._ends)
        self._books = {name: [] for name in line.names()}
        self._written = 0
        self._deeds = []

    def do(self, deed):
        place = self.book_for(deed)
        carry_out(self._scene, deed)
        self._deeds.append(deed)
        if place is None:
            return None
        self._written += 1
        self._books[place].append((self._written, deed))
        return self._written

    def book_for(self, deed):
        """The place in whose book the deed would be written, None for a lost word; refuses as it is refused."""
        return written_at(self._scene, deed)

    def begun(self):
        """The trains and the ends with which the day began, two lists."""
        return list(self._starts), list(self._ends)

    def line(self):
        return self._line

    def trains(self):
        return list(self._scene.spots)

    def at(self, place):
        self._check_place(place)
        return list(self._scene.stands[place])

    def where(self, train):
        self._scene.check_train(train)
        return self._scene.spots[train]

    def staff(self, k):
        self._check_stretch(k)
        return self._scene.staff_spot(k)

    def pilot(self, k):
        self._check_stretch(k)
        return self._scene.things["pilot", k]

    def long_staff(self, j):
        # Asked for its home, the line itself refuses what is no long stretch.
        self._line.long_home(j)
        return self._scene.things["long", j]

    def pending(self, place, k):
        self._check_place(place)
        self._check_stretch(k)
        count = self._scene.counts[place, k]
        return None if count.clear() else count.last()

    def inside(self, k):
        self._check_stretch(k)
        return [train for train in self._scene.spots if k in self._scene.stretches_in(train)]

    def words(self):
        return self._scene.wire.under_way()

    def book(self, place):
        self._check_place(place)
        return list(self._books[place])

    def done(self):
        return self._written

    def deeds(self):
        return list(self._deeds)

    def rights(self, place):
        self._check_place(place)
        rights = [(k, self._scene.holders[place, k].right()) for k in range(self._line.many_stretches())]
        return [(k, right[0], right[1]) for k, right in rights if right is not None]

    def lock_of(self, k):
        self._check_stretch(k)
        keeper = self._scene.keepers[k]
        return keeper.times(), keeper.locked(), keeper.is_open()

    def known(self, place):
        self._check_place(place)
        return self._scene.known(place)

    def told(self):
        names = self._line.names()
        stretches = range(self._line.many_stretches())
        return (
            tuple([(train, self.where(train)) for train in self.trains()]),
            tuple([(name, tuple(self.at(name))) for name in names]),
            tuple([(k, self.staff(k), self.lock_of(k)) for k in stretches]),
            tuple([(k, self.pilot(k)) for k in stretches]),
            tuple([(j, self.long_staff(j)) for j in range(self._line.many_longs())]),
            tuple([(name, tuple(self.known(name))) for name in names]),
            tuple(self.words()),
            self._scene.wire.sent(),
            self._written,
        )

    def twin(self):
        other = Day(self._line, self._starts, self._ends)
        other._scene = self._scene.twin()
        other._books = {name: list(book) for name, book in self._books.items()}
        other._written = self._written
        other._deeds = list(self._deeds)
        return other

    def may(self, place=None):
        if place is not None:
            self._check_place(place)
        return [deed for deed in possible_deeds(self._scene) if self._is_done_at(deed, place)]

    def _is_done_at(self, deed, place):
        """Whether the deed would not be refused, and be written at the place, if one is told."""
        try:
            book = place_of(self._scene, deed)
        except StaffError:
            return False
        return place is None or book == place

    def _check_place(self, place):
        self._line.number_of(place)

    def _check_stretch(self, k):
        self._line.ends(k)
