"""Which kind of value something is."""


def is_integer(thing):
    """Whether any value is an integer; True and False are none."""
    return isinstance(thing, int) and not isinstance(thing, bool)


def is_integer_from(thing, least):
    """Whether any value is an integer that is at least so much."""
    return is_integer(thing) and thing >= least


def is_integer_below(thing, end):
    """Whether any value is an integer from 0 to one less than the end."""
    return is_integer_from(thing, 0) and thing < end


def is_row(thing, many):
    """Whether any value is a tuple of so many integers."""
    return isinstance(thing, tuple) and len(thing) == many and all([is_integer(item) for item in thing])


def is_row_from(thing, many, least):
    """Whether any value is a tuple of so many integers that are at least so much."""
    return is_row(thing, many) and all([item >= least for item in thing])


def is_number(thing):
    """Whether any value is a number: a pair of integers whose second one is at least 1."""
    return is_row(thing, 2) and thing[1] >= 1


def is_paper(thing, kind, many):
    """Whether any value is a tuple of so many items, from 1 on, that begins with the name of a kind."""
    return isinstance(thing, tuple) and len(thing) == many and thing[0] == kind


def is_order(thing, many):
    """Whether any value is a tuple with each integer from 0 to many - 1 once."""
    return is_row(thing, many) and sorted(thing) == list(range(many))
