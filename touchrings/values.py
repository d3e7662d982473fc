"""What kinds of values there are; each of these functions takes any value."""


def is_whole(thing):
    """Whether any value is an integer, a bool being none."""
    return isinstance(thing, int) and not isinstance(thing, bool)


def is_from(thing, start):
    """Whether any value is an integer from start on."""
    return is_whole(thing) and thing >= start


def is_below(thing, end):
    """Whether any value is an integer from 0 to end less 1."""
    return is_whole(thing) and 0 <= thing < end


def is_pair(thing):
    """Whether any value is a tuple of two items."""
    return isinstance(thing, tuple) and len(thing) == 2


def is_tagged(thing, word, length):
    """Whether any value is a tuple of that length whose first item is that word."""
    return isinstance(thing, tuple) and len(thing) == length and thing[0] == word


def is_ascending(items):
    """Whether a tuple, of items that Python can compare, is sorted without repeats."""
    return all([low < high for low, high in zip(items, items[1:])])


def is_order(thing, many):
    """Whether any value is a tuple that has each integer from 0 to many less 1 once."""
    if not isinstance(thing, tuple) or len(thing) != many or not all([is_below(item, many) for item in thing]):
        return False
    return sorted(thing) == list(range(many))


def are_below(thing, end):
    """Whether any value is an ascending tuple of integers from 0 to end less 1."""
    return isinstance(thing, tuple) and all([is_below(item, end) for item in thing]) and is_ascending(thing)
