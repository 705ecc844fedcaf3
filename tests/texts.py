"""Deeds with their rows, and days by chance with what they began with, for the tests of texts."""

from onestaff.days import Day
from tests.walks import chance_start, walk

# All forms of point 101, with numbers at their bounds.
ROWS = [
    (("leave", "ab", "c", "staff"), "leave ab to c by staff"),
    (("leave", "a", "bcdefg", "ticket"), "leave a to bcdefg by ticket"),
    (("leave", "to", "by", "pilot"), "leave to to by by pilot"),
    (("leave", "leave", "leave", "long"), "leave leave to leave by long"),
    (("come", "ab"), "come ab"),
    (("lock", "ab", 1, "c"), "lock ab 1 for c"),
    (("lock", "for", 999999, "for"), "lock for 999999 for for"),
    (("pilot", "a", 0), "pilot a 0"),
    (("unlock", "a", 10), "unlock a 10"),
    (("give", "a", 5), "give a 5"),
    (("take", "a", 1), "take a 1"),
    (("box", "box", 100000), "box box 100000"),
    (("walk", "ab", "c"), "walk ab to c"),
    (("help", "ab", "c"), "help ab c"),
    (("bring", "ab", "c"), "bring ab to c"),
    (("again", "a", "through", 0), "again a through 0"),
    (("again", "a", "lock", 999999), "again a lock 999999"),
    (("again", "a", "open", 20), "again a open 20"),
    (("get", 0), "get 0"),
    (("get", 999999), "get 999999"),
    (("lose", 12), "lose 12"),
]


def no_rows():
    """Rows that write no deed; of each form some with a word more or fewer, with other blanks, with wrong words."""
    told = ["", " ", "  ", "leave", "come", "ok", "undo", "done", "may", "where a", "pilot 0", "start ", "table "]
    told += ["wait a", "Come ab", "comes ab", "ab come", "come 1", "come abcdefg", "come aB", "come a1", "come -"]
    for _, row in ROWS:
        words = row.split(" ")
        told += [row + " ", " " + row, row.replace(" ", "  ", 1), row + " a", row + " 1", " ".join(words[:-1])]
        told += [row + "\n", "\n" + row, row.replace(" ", "\n", 1), row.upper(), row.replace(" ", "", 1), row + "."]
    told += ["leave a at b by staff", "leave a to b for staff", "leave a to b by Staff", "leave a to b by lock"]
    told += ["leave a to b staff", "leave a b by staff", "leave a b staff", "lock a 1 to b", "lock a for b"]
    told += ["lock a 1 b"]
    told += ["lock 1 a for b", "pilot 1 a", "walk a b", "walk a at b", "help a to b", "bring a b", "again a 1 lock"]
    told += ["again a staff 1", "again a Lock 1", "again lock a 1 1", "get a", "lose a", "train x at a", "place a 1"]
    numbers = ["00", "01", "1000000", "0999999", "-1", "+1", "1.0", "1_0", "a", "True", "9" * 3000]
    for number in numbers + ["\u0661", "\u00b2"]:
        told += [f"get {number}", f"lose {number}", f"pilot a {number}", f"lock a {number} for b"]
        told += [f"again a open {number}", f"take a {number}"]
    return told


def no_deeds():
    """Tuples like deeds that are none."""
    told = [(), ("come",), ("come", "ab", "c"), ("wait", "ab"), ("Come", "ab"), ("come", "aB"), ("come", "abcdefg")]
    told += [["come", "ab"], "come ab", ("come ab",), ("come", "a b"), (("come",), "ab"), ("come", ("ab",)), ("", "ab")]
    told += [("get", True), ("get", False), ("get", -1), ("get", 1000000), ("get", "0"), ("get", None)]
    told += [("get", 10 ** 29)]
    told += [("pilot", "a", True), ("pilot", "a", "0"), ("pilot", 0, "a"), ("pilot", "a"), ("pilot", "a", 0, 0)]
    told += [("lock", "a", 1, 2), ("lock", "a", 1), ("lock", "a", "for", "b"), ("lock", "a", 1, "for", "b")]
    told += [("leave", "a", "to", "b", "by", "staff"), ("leave", "a", "b", "lock"), ("leave", "a", "b", "Staff")]
    told += [("leave", "a", "b", ("staff",)), ("leave", "a", "b"), ("again", "a", "staff", 0)]
    told += [("again", "a", 0, "lock")]
    told += [("walk", "a", "to", "b"), ("help", "a"), (None, "a"), (1, "a"), ([], "a"), ({}, "a"), (True,)]
    return told


def chance_log(chance, steps=25):
    """A line, trains, ends and a day that began with them, behind some deeds."""
    line, trains, ends = chance_start(chance)
    day = Day(line, trains, ends)
    walk(day, chance, steps)
    return line, trains, ends, day
