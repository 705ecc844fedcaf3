"""A lock of a staff, and the rights that one place has of a stretch by such locks."""

from onestaff.errors import NoNumber, NoRight, NotShut, Shut
from onestaff.words import is_whole


class Keeper:
    """The lock of one staff."""

    def __init__(self):
        self._times = 0
        self._to = None
        self._opened = False

    def lock(self, to):
        if self._to is not None:
            raise Shut(self._to)
        self._times += 1
        self._to = to
        return self._times

    def locked(self):
        return None if self._to is None else (self._times, self._to)

    def opens(self, number):
        if self._opened or not self._is_locked_by(number):
            return False
        self._opened = True
        return True

    def is_open(self):
        return self._opened

    def unlock(self):
        if self._to is None:
            raise NotShut(None)
        if not self._opened:
            raise NoRight(self._times)
        self._free()

    def ended(self, number):
        if self._to is None:
            raise NotShut(None)
        if not self._is_locked_by(number):
            raise NoRight(self._times)
        self._free()

    def _is_locked_by(self, number):
        # is_whole takes no truth for a number, so True is not the lock 1.
        return self._to is not None and is_whole(number, self._times, self._times)

    def _free(self):
        self._to = None
        self._opened = False

    def times(self):
        return self._times

    def twin(self):
        other = Keeper()
        other._times = self._times
        other._to = self._to
        other._opened = self._opened
        return other


class Holder:
    """What one place has of the rights of one stretch."""

    def __init__(self):
        self._right = None
        self._noted = None
        self._seen = 0

    def got(self, number, place):
        # There is no greatest number, so the number itself stands for the upper bound.
        if not is_whole(number, 1, number):
            raise NoNumber(number)
        if number <= self._seen:
            return False
        self._seen = number
        self._right = (number, place)
        return True

    def right(self):
        return self._right

    def use(self):
        if self._right is None:
            raise NoRight(None)
        right = self._right
        self._right = None
        return right

    def give(self):
        self._noted = self.use()
        return self._noted

    def note(self, number, place):
        self._noted = (number, place)

    def noted(self):
        return self._noted

    def seen(self):
        return self._seen

    def twin(self):
        other = Holder()
        other._right = self._right
        other._noted = self._noted
        other._seen = self._seen
        return other
