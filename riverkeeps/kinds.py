"""Kinds of values: what a judge asks of a judged value before it looks at the names in it.

A tuple in the place of a list counts as a list, and a bool is no number.
"""


def is_list(value):
    """Tell whether the value is a list, or a tuple in its place."""
    return isinstance(value, (list, tuple))


def is_row(value, many):
    """Tell whether the value is a tuple of so many items."""
    return isinstance(value, tuple) and len(value) == many


def is_number(value):
    """Tell whether the value is an integer and not a bool."""
    return isinstance(value, int) and not isinstance(value, bool)


def are_texts(values):
    """Tell whether all the values are strings."""
    return all([isinstance(value, str) for value in values])


def is_landing(value):
    """Tell whether the value is a tuple of two strings, whatever they name."""
    return is_row(value, 2) and are_texts(value)


def are_landings(value):
    """Tell whether the value is a list of tuples of two strings."""
    return is_list(value) and all([is_landing(item) for item in value])
