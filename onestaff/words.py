"""What is a whole number, a name, a list and a tuple, of any thing."""


def is_whole(thing, low, high):
    # True and False are ints to Python, but no whole numbers here.
    if not isinstance(thing, int) or isinstance(thing, bool):
        return False
    return low <= thing <= high


def is_name(thing):
    if not isinstance(thing, str) or not 1 <= len(thing) <= 6:
        return False
    return all("a" <= sign <= "z" for sign in thing)


def is_list(thing, low, high):
    """Whether it is a list of low to high things; a tuple may stand for a list."""
    return isinstance(thing, (list, tuple)) and low <= len(thing) <= high


def is_tuple(thing, many):
    """Whether it is a tuple of so many things; a list may not stand for a tuple."""
    return isinstance(thing, tuple) and len(thing) == many
