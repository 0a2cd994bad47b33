"""Values of every kind, for functions that accept any value."""


def nested(levels, kind):
    """A value with as many levels of lists, tuples or dicts inside each other."""
    value = 0
    for _ in range(levels):
        if kind == "list":
            value = [value]
        elif kind == "tuple":
            value = (value,)
        else:
            value = {"in": value}
    return value


PLAIN = [
    0, 1, 2, -1, 4, 5, 12, 13, 10**5000, -10**5000,
    True, False, None,
    "", "0", "white", "scanned", "store", "a\nb\tc", "~",
    (), (0,), (1, (), [()]), ("load",), ((), 0), ((), None), ((),), ((), False, False),
    [], [0], [[]], [(), False], ["new", "scanned"], [1, [], [[]]],
    {}, {"load": "scanned"}, {0: [1, (2,)]}, {(): {}},
]
DEEP = [nested(levels, kind) for levels in (2, 3, 19, 20) for kind in ("list", "tuple", "dict")]
ANY = PLAIN + DEEP


def same(one, other):
    """Whether two values are equal and of the same kinds throughout (True is not 1)."""
    return repr_of(one) == repr_of(other)


def repr_of(value):
    """What tells a value from all others; Python writes out no integer of 5000 digits."""
    if isinstance(value, (tuple, list)):
        return (value.__class__, [repr_of(item) for item in value])
    if isinstance(value, dict):
        return (dict, [(repr_of(key), repr_of(value[key])) for key in value])
    return (value.__class__, value)


def lists_for_tuples(value):
    """All values that come from a nested tuple by putting a list in place of one tuple in it."""
    if not isinstance(value, tuple):
        return []
    found = [list(value)]
    for at, item in enumerate(value):
        found += [value[:at] + (other,) + value[at + 1:] for other in lists_for_tuples(item)]
    return found


def booleans_for_integers(value):
    """All values that come from a nested tuple by putting a boolean in place of a 0 or 1 in it."""
    if isinstance(value, int) and not isinstance(value, bool) and value in (0, 1):
        return [bool(value)]
    return replaced_inside(value, booleans_for_integers)


def integers_for_booleans(value):
    """All values that come from a nested tuple by putting 0 or 1 in place of a boolean in it."""
    if isinstance(value, bool):
        return [int(value)]
    return replaced_inside(value, integers_for_booleans)


def replaced_inside(value, others):
    if not isinstance(value, tuple):
        return []
    return [
        value[:at] + (other,) + value[at + 1:]
        for at, item in enumerate(value)
        for other in others(item)
    ]
