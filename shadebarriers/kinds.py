"""Questions about plain values that several modules ask."""


def is_number(value):
    """Whether any value is an integer; Python counts True and False as such, this package does not."""
    return isinstance(value, int) and not isinstance(value, bool)


def is_ascending(items):
    """Whether the items of a tuple, which can be compared, are sorted and none stands there twice."""
    return all([low < high for low, high in zip(items, items[1:])])
