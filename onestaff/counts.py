"""A count of the trains that left one place, one behind the other, and of those that are through."""

from onestaff.errors import NoNumber
from onestaff.words import is_whole


class Count:
    def __init__(self):
        self._last = 0
        self._told = 0

    def out(self):
        self._last += 1
        return self._last

    def through(self, number):
        if not is_whole(number, 1, self._last):
            raise NoNumber(number)
        # A word that is late or said again tells an elder number, and nothing new.
        self._told = max(self._told, number)

    def all_through(self):
        self._told = self._last

    def last(self):
        return self._last

    def told(self):
        return self._told

    def clear(self):
        return self._told == self._last

    def twin(self):
        other = Count()
        other._last = self._last
        other._told = self._told
        return other
