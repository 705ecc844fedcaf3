"""A desk: it keeps a day, is told lines of text, and answers each."""

from onestaff.days import Day
from onestaff.daytext import read_day
from onestaff.deedtext import deed_of_row
from onestaff.errors import NoBack, NoLine, NoStart
from onestaff.forms import in_rows
from onestaff.questions import answer, question_in

DONE = "ok"


class Desk:
    def __init__(self):
        self._day = None
        # What was kept ahead of each line that can be taken back: a day, or None where none was begun.
        self._ahead = []

    def say(self, line):
        if not isinstance(line, str) or "\n" in line:
            raise NoLine(line)
        if line == "undo":
            return self._undo()
        word, blank, rows = line.partition(" ")
        if word == "start" and blank:
            return self._keep(_begun(in_rows(rows)))
        deed, question = deed_of_row(line), question_in(line)
        if deed is None and question is None:
            raise NoLine(line)
        if self._day is None:
            raise NoStart()
        return answer(self._day, question) if deed is None else self._keep(_behind(self._day, deed))

    def _keep(self, day):
        self._ahead.append(self._day)
        self._day = day
        return DONE

    def _undo(self):
        if not self._ahead:
            raise NoBack()
        self._day = self._ahead.pop()
        return DONE


def _begun(text):
    line, trains, ends, deeds = read_day(text)
    day = Day(line, trains, ends)
    for deed in deeds:
        day.do(deed)
    return day


def _behind(day, deed):
    """Another day: the one ahead of the deed is kept as it was, to be told again when the deed is taken back."""
    twin = day.twin()
    twin.do(deed)
    return twin
