"""Whether any thing is a whole number, one in range, or a tuple of such."""


# Python counts truths among the ints; the document does not.
def is_whole(thing):
    return isinstance(thing, int) and not isinstance(thing, bool)


def is_number_of(thing, many):
    return is_whole(thing) and 0 <= thing < many


def is_row_of(thing, length, many):
    if not isinstance(thing, tuple) or len(thing) != length:
        return False
    return all([is_number_of(part, many) for part in thing])
