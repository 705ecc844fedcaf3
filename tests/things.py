"""Things of every kind that may be handed in where a refusal is told of any thing."""

from onestaff.errors import NoName
from onestaff.lines import Line

BIG = 10 ** 30 - 1


def any_things():
    """New ones each time; none of them is a name, a place or a number from 0 to 9."""
    line = Line([("a", 1), ("b", 2)], [("staff", 0)])
    return [
        True, False, None, -1, 10, 300, BIG, -BIG,
        "", "A", "1", "0", "a b", "a\n", "\n", "ab~", "zzzzzzz", "x" * 4000,
        [], ["a"], [0], [None, True], (), ("a",), (0,), ((), []), ("a", 1, 2),
        {}, {"a": 1}, {0: [1]}, {(): {}}, [[[[[[]]]]]],
        line, [line], (line, line), NoName("x"),
    ]


def refused(case, error, field, thing, call, *args):
    """Holds that the call is refused by just this error, whose field is the very thing."""
    with case.assertRaises(error) as caught:
        call(*args)
    case.assertEqual(caught.exception.__class__, error)
    case.assertIs(getattr(caught.exception, field), thing)
