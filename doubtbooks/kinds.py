"""What can be asked of any value, whatever it is."""


def is_integer_within(value, least, most):
    """Whether value is an integer from least to most."""
    # Python takes True for 1, and False for 0; here a bool is no integer.
    return isinstance(value, int) and not isinstance(value, bool) and least <= value <= most


def is_tuple_of(value, many):
    """Whether value is a tuple of so many items."""
    return isinstance(value, tuple) and len(value) == many


def are_ascending(items):
    """Whether each item is greater than the one ahead."""
    return all(items[k] < items[k + 1] for k in range(len(items) - 1))
