"""What is asked at a desk: the forms of the questions, and what of a day answers each."""

from onestaff.books import books_of
from onestaff.daytext import day_text
from onestaff.deedtext import deed_text
from onestaff.errors import NoNumber
from onestaff.forms import in_one_line, in_rows, read_row
from onestaff.maybe import may_be
from onestaff.moves import brings
from onestaff.stands import stand_of, wrong
from onestaff.tabletext import table_in
from onestaff.times import looked
from onestaff.words import is_whole

NONE = "none"


def _words(parts):
    """Several words, or none; nothing is told as None."""
    return " ".join([str(part) for part in parts]) if parts else NONE


def _rows(rows):
    return " / ".join(rows) if rows else NONE


def _where(day, train):
    return _words(day.where(train))


def _staff(day, k):
    return _words(day.staff(k))


def _pilot(day, k):
    return _words(day.pilot(k))


def _long(day, j):
    return _words(day.long_staff(j))


def _at(day, place):
    return _words(day.at(place))


def _inside(day, k):
    return _words(day.inside(k))


def _rights(day, place):
    return _rows([_words(right) for right in day.rights(place)])


def _pending(day, place, k):
    number = day.pending(place, k)
    return NONE if number is None else str(number)


def _under_way(day):
    return _rows([_words((number,) + word) for number, word in day.words()])


def _book(day, place):
    return _rows([f"{number} {deed_text(deed)}" for number, deed in day.book(place)])


def _done(day):
    return str(day.done())


def _may(day, place=None):
    return _rows([deed_text(deed) for deed in day.may(place)])


def _show(day):
    trains, ends = day.begun()
    return in_one_line(day_text(day.line(), trains, ends, day.deeds()))


def _spots(day, train, *lost):
    # Asked where it is, the day itself refuses what is no train.
    day.where(train)
    for number in lost:
        if not is_whole(number, 1, day.done()):
            raise NoNumber(number)
    trains, ends = day.begun()
    rows = [(place, None if number in lost else deed) for number, place, deed in _entries(day)]
    of_trains, _ = may_be(day.line(), trains, ends, rows)
    return _rows([_words(spot) for spot in of_trains[train]])


def _entries(day):
    """Tuples of number, place and deed, by the numbers."""
    told = [(number, place, deed) for place, book in books_of(day).items() for number, deed in book]
    return sorted(told, key=lambda entry: entry[0])


def _stand(day):
    # What is refused is told to others, so it is not the desk's own day.
    return stand_of(day.twin())


def _wrong(day, train, to):
    return _words(wrong(_stand(day), train, to))


def _brings(day, k, place):
    word, told = brings(_stand(day), k, place)
    if word == "never":
        return f"never {len(told)}"
    return _rows([_words(move) for move in told])


def _table(day, rows):
    stand = _stand(day)
    told = looked(stand, table_in(in_rows(rows)))
    return _words(["kept"] + told[1] if told[0] == "kept" else told)


QUESTIONS = {
    "where NAME": _where,
    "staff NUMBER": _staff,
    "pilot NUMBER": _pilot,
    "long NUMBER": _long,
    "at NAME": _at,
    "inside NUMBER": _inside,
    "rights NAME": _rights,
    "pending NAME NUMBER": _pending,
    "words": _under_way,
    "book NAME": _book,
    "done": _done,
    "may": _may,
    "may NAME": _may,
    "show": _show,
    "spots NAME NUMBER": _spots,
    "spots NAME NUMBER NUMBER": _spots,
    "wrong NAME NAME": _wrong,
    "brings NUMBER NAME": _brings,
    "table ROWS": _table,
}


def question_in(line):
    """A tuple of the form of the question and its parts, None where the line asks nothing."""
    word, blank, rows = line.partition(" ")
    if word == "table" and blank:
        # Rows need not have a form here: what is amiss in them their text is refused for.
        return "table ROWS", (rows,)
    for form in QUESTIONS:
        parts = read_row(form, line)
        if parts is not None:
            return form, parts
    return None


def answer(day, question):
    form, parts = question
    ask = QUESTIONS[form]
    return ask(day, *parts)
