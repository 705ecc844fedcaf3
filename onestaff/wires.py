"""A wire: the words that were sent and are neither got nor lost yet."""

from onestaff.errors import NoWord
from onestaff.words import is_whole


class Wire:
    def __init__(self):
        self._words = {}
        self._sent = 0

    def send(self, word):
        number = self._sent
        self._words[number] = word
        self._sent += 1
        return number

    def word(self, number):
        """The word under way of this number, which stays under way."""
        if not is_whole(number, 0, self._sent) or number not in self._words:
            raise NoWord(number)
        return self._words[number]

    def get(self, number):
        word = self.word(number)
        del self._words[number]
        return word

    def lose(self, number):
        self.get(number)

    def under_way(self):
        # Numbers rise as words are sent, and a dict keeps the order in which its keys were added.
        return list(self._words.items())

    def sent(self):
        return self._sent

    def twin(self):
        other = Wire()
        other._words = dict(self._words)
        other._sent = self._sent
        return other
