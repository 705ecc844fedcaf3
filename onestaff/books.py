"""The books of a day, and the day that is found again from them."""

from onestaff.days import Day
from onestaff.errors import Gap, NoBooks, NotSo, StaffError
from onestaff.words import is_tuple, is_whole

MOST = 300


def books_of(day):
    return {name: day.book(name) for name in day.line().names()}


def day_by(line, trains, ends, books):
    day = Day(line, trains, ends)
    _check_books(line, books)
    for number, place, deed in _entries(line, books):
        if not does_at(day, place, deed):
            raise NotSo(number)
    return day


def does_at(day, place, deed):
    """Does the deed where it is not refused and would be written in the book of the place; tells whether."""
    try:
        book = day.book_for(deed)
    except StaffError:
        return False
    if book != place:
        return False
    day.do(deed)
    return True


def _check_books(line, books):
    names = line.names()
    if not isinstance(books, dict) or len(books) != len(names) or not all(name in books for name in names):
        raise NoBooks(books)
    for name in names:
        _check_book(books[name])


def _check_book(book):
    if not isinstance(book, (list, tuple)):
        raise NoBooks(book)
    for entry in book:
        if not is_tuple(entry, 2) or not is_whole(entry[0], 1, MOST):
            raise NoBooks(entry)


def _entries(line, books):
    """Tuples of number, place and deed, by the numbers, of which there is each one from 1 on."""
    entries = [(number, place, deed) for place in line.names() for number, deed in books[place]]
    numbers = [entry[0] for entry in entries]
    for number in range(1, len(entries) + 1):
        if numbers.count(number) != 1:
            raise Gap(number)
    return sorted(entries, key=lambda entry: entry[0])
