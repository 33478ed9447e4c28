"""Tests of the values that callers pass."""


def is_integer(value):
    """Tell whether a value is an integer; True and False are not."""
    return isinstance(value, int) and not isinstance(value, bool)


def is_within(value, low, high):
    """Tell whether a value is an integer from low to high."""
    return is_integer(value) and low <= value <= high


def is_list(value):
    """Tell whether a value may be passed where a list is expected."""
    return isinstance(value, (list, tuple))


def is_order(value, many):
    """Tell whether a value is a list that has each integer from 0 to many - 1 just once."""
    return is_list(value) and all([is_integer(item) for item in value]) and sorted(value) == list(range(many))


def are_classes(people, value):
    """Tell whether a value is a list of lists that are not empty and have each of so many people just once."""
    if not is_list(value) or not all([is_list(members) and len(members) > 0 for members in value]):
        return False
    return is_order([person for members in value for person in members], people)
