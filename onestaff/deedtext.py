"""Deeds as rows of words, and logs, which are lists of deeds, as texts."""

from onestaff.errors import NoDeed, NoText
from onestaff.forms import fits, read_row, read_rows, write_row

# By the word of the deed, which stands first.
FORMS = {
    "leave": "leave NAME to NAME by THING",
    "come": "come NAME",
    "lock": "lock NAME NUMBER for NAME",
    "pilot": "pilot NAME NUMBER",
    "unlock": "unlock NAME NUMBER",
    "give": "give NAME NUMBER",
    "take": "take NAME NUMBER",
    "box": "box NAME NUMBER",
    "walk": "walk NAME to NAME",
    "help": "help NAME NAME",
    "bring": "bring NAME to NAME",
    "again": "again NAME KIND NUMBER",
    "get": "get NUMBER",
    "lose": "lose NUMBER",
}


def deed_text(deed):
    if not _is_deed(deed):
        raise NoDeed(deed)
    return write_row(FORMS[deed[0]], deed[1:])


def _is_deed(thing):
    if not isinstance(thing, tuple) or not thing or not isinstance(thing[0], str):
        return False
    return thing[0] in FORMS and fits(FORMS[thing[0]], thing[1:])


def deed_in(text):
    deed = deed_of_row(text) if isinstance(text, str) else None
    if deed is None:
        raise NoText(0)
    return deed


def deed_of_row(row):
    """The deed that the row writes, None where it writes none."""
    word = row.split(" ")[0]
    if word not in FORMS:
        return None
    parts = read_row(FORMS[word], row)
    return None if parts is None else (word,) + parts


def log_text(deeds):
    if not isinstance(deeds, (list, tuple)):
        raise NoDeed(deeds)
    return "\n".join([deed_text(deed) for deed in deeds])


def read_log(text):
    return read_rows(text, deed_of_row)
