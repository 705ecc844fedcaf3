"""A scene: all that changes in a day but its books, and what can be asked of it without looking at a deed."""

from onestaff.counts import Count
from onestaff.errors import NoTrain
from onestaff.locks import Holder, Keeper
from onestaff.wires import Wire


def lies_at(spot, place):
    """Whether a thing in this spot lies at the place; a train may have the name of a place."""
    return spot is not None and spot[0] != "with" and spot[1] == place


class Scene:
    """Things are staffs, pilots and long staffs, under keys like ("staff", k), ("pilot", k) and ("long", j)."""

    def __init__(self, rails, starts, ends):
        names = rails.names()
        stretches = range(rails.many_stretches())
        pairs = [(name, k) for name in names for k in stretches]
        self.rails = rails
        self.spots = {train: ("at", place) for train, place in starts}
        self.stands = {name: [train for train, place in starts if place == name] for name in names}
        self.things = {("pilot", k): None for k in stretches}
        for k, place in enumerate(ends):
            self.things["staff", k] = ("at", place)
        for j in range(rails.many_longs()):
            self.things["long", j] = ("box", rails.long_home(j))
        # The rights that go with a long staff while it is out of its box: tuples of k, number, locker.
        self.rights_along = {j: () for j in range(rails.many_longs())}
        self.keepers = [Keeper() for _ in stretches]
        self.counts = {pair: Count() for pair in pairs}
        self.came = {pair: None for pair in pairs}
        self.holders = {pair: Holder() for pair in pairs}
        self.wire = Wire()

    def check_train(self, train):
        # A list or a dict may be asked for, too, and is no key of a dict.
        if train not in list(self.spots):
            raise NoTrain(train)

    def standing(self, train):
        """The place where the train stands, None where it stands at none."""
        spot = self.spots[train]
        return spot[1] if spot[0] == "at" else None

    def free_roads(self, place):
        return self.rails.roads(place) - len(self.stands[place])

    def stand(self, train, place):
        self.spots[train] = ("at", place)
        self.stands[place].append(train)

    def key_by(self, start, to, thing):
        """The key of the thing by which a train goes from start to a place; of a ticket, that of the staff."""
        if thing == "long":
            return "long", self.rails.long_between(start, to)
        sort = "pilot" if thing == "pilot" else "staff"
        return sort, self.rails.between(start, to)

    def key_of(self, train):
        """The key of the thing of a train that is in a stretch, but is no helper."""
        spot = self.spots[train]
        return self.key_by(spot[1], spot[2], spot[3])

    def staff_at(self, place, k):
        return lies_at(self.things["staff", k], place)

    def staff_spot(self, k):
        spot = self.things["staff", k]
        locked = self.keepers[k].locked()
        return spot if locked is None else ("locked", spot[1], locked[1])

    def stretches_in(self, train):
        """The numbers of the stretches in which the train is."""
        spot = self.spots[train]
        if spot[0] == "at":
            return []
        if spot[0] == "helping":
            return self.stretches_in(spot[2])
        start, to = self.rails.number_of(spot[1]), self.rails.number_of(spot[2])
        return list(range(min(start, to), max(start, to)))

    def other_end(self, place, k):
        low, high = self.rails.ends(k)
        return high if place == low else low

    def last_word(self, place, kind, k):
        """The last word of the kind of the stretch, as the place may say it again; None where there is none."""
        told = self._last_told(place, kind, k)
        # To itself a place said nothing that could be said again.
        if told is None or told[1] == place:
            return None
        return place, told[1], kind, k, told[0]

    def _last_told(self, place, kind, k):
        """A tuple of the number and of whom it is told, or None."""
        if kind == "open":
            return self.holders[place, k].noted()
        if kind == "lock":
            keeper = self.keepers[k]
            return keeper.locked() if self.staff_at(place, k) and not keeper.is_open() else None
        came = self.came[place, k]
        return None if came is None else (came, self.other_end(place, k))

    def known(self, place):
        return [self._known_of(place, k) for k in range(self.rails.many_stretches())]

    def _known_of(self, place, k):
        count = self.counts[place, k]
        holder = self.holders[place, k]
        came = self.came[place, k]
        return k, count.last(), count.told(), came, holder.right(), holder.seen(), holder.noted()

    def twin(self):
        other = Scene(self.rails, (), ())
        other.spots = dict(self.spots)
        other.stands = {place: list(trains) for place, trains in self.stands.items()}
        other.things = {key: self.things[key] for key in self.things}
        other.rights_along = dict(self.rights_along)
        other.keepers = [keeper.twin() for keeper in self.keepers]
        other.counts = {pair: self.counts[pair].twin() for pair in self.counts}
        other.came = {pair: self.came[pair] for pair in self.came}
        other.holders = {pair: self.holders[pair].twin() for pair in self.holders}
        other.wire = self.wire.twin()
        return other
