"""Whether any thing is a whole number, one in range, a tuple of such, or one beside a name."""


# Python counts truths among the ints; the document does not.
def is_whole(thing):
    return isinstance(thing, int) and not isinstance(thing, bool)


def is_number_of(thing, many):
    return is_whole(thing) and 0 <= thing < many


def is_row_of(thing, length, many):
    if not isinstance(thing, tuple) or len(thing) != length:
        return False
    return all([is_number_of(part, many) for part in thing])


# Of a name that is not there, there are none, so that no number is one of them.
def is_named_number(thing, many_by_name):
    if not isinstance(thing, tuple) or len(thing) != 2 or not isinstance(thing[0], str):
        return False
    return is_number_of(thing[1], many_by_name.get(thing[0], 0))
