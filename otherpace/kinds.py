"""Which kind of value something is."""


def is_integer(thing):
    """Whether any value is an integer; True and False are none."""
    return isinstance(thing, int) and not isinstance(thing, bool)


def is_integer_from(thing, least):
    """Whether any value is an integer that is at least so much."""
    return is_integer(thing) and thing >= least


def is_integer_below(thing, end):
    """Whether any value is an integer from 0 to one less than the end."""
    return is_integer_from(thing, 0) and thing < end


def is_order(thing, many):
    """Whether any value is a tuple with each integer from 0 to many - 1 once."""
    if not isinstance(thing, tuple) or not all([is_integer(part) for part in thing]):
        return False
    return sorted(thing) == list(range(many))
