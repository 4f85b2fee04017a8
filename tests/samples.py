"""Tables that several tests go through."""

from itertools import combinations, product


def sets_below(many):
    """Return all sets of the numbers 0 to many - 1."""
    return [some for size in range(many + 1) for some in combinations(range(many), size)]


def tables_up_to(things, marks):
    """Return all tables with at most so many things and marks."""
    return [
        ("table", many, rows)
        for many in range(marks + 1)
        for size in range(things + 1)
        for rows in product(sets_below(many), repeat=size)
    ]


# The table of the document's example.
EXAMPLE = ("table", 3, ((0, 1), (0, 2), (1,)))

NEITHER = ("table", 0, ())
NO_THINGS = ("table", 3, ())
NO_MARKS = ("table", 0, ((), ()))

# As many things and marks as [c7] lets pass.
GREATEST = ("table", 7, (
    (0, 1, 2, 3, 4, 5, 6),
    (0, 1, 2, 3, 4, 5),
    (1, 2, 3, 4, 5, 6),
    (0, 2, 4, 6),
    (1, 3, 5),
    (6,),
    (),
    (0, 6),
))

# Tables in which all things have all marks, or none has any.
ALL_HAVE_ALL = ("table", 3, ((0, 1, 2), (0, 1, 2)))
NONE_HAS_ANY = ("table", 3, ((), ()))

# Each set of its marks is closed: each thing lacks just one mark.
ALL_CLOSED = ("table", 7, tuple(tuple(mark for mark in range(7) if mark != thing) for thing in range(7)))

# Tables with edges of their own, each in the bounds.
EDGES = (
    NEITHER,
    NO_THINGS,
    NO_MARKS,
    ALL_HAVE_ALL,
    NONE_HAS_ANY,
    ("table", 0, ((),)),
    ("table", 1, ()),
    ("table", 1, ((),)),
    ("table", 1, ((0,),)),
    ("table", 7, ()),
    ("table", 0, ((),) * 8),
    ("table", 7, ((0, 1, 2, 3, 4, 5, 6),) * 8),
    ("table", 7, ((),) * 8),
)

# Tables with many closed sets, or with rows that stand in the way of each other.
LARGE = (
    GREATEST,
    ALL_CLOSED,
    ("table", 7, tuple(tuple(range(thing)) for thing in range(8))),
    ("table", 7, tuple(tuple(range(thing, 7)) for thing in range(8))),
    ("table", 7, ((0, 1), (1, 2), (2, 3), (3, 4), (4, 5), (5, 6), (0, 6), (0, 3, 6))),
    ("table", 7, ((0, 2, 5), (2, 5), (0, 1, 2, 5, 6), (3,), (3, 4), (0, 2, 5), (1, 3, 6), (1, 4, 5, 6))),
    ("table", 6, ((0, 1, 2), (3, 4, 5), (0, 3), (1, 4), (2, 5), (0, 1, 3, 4), ())),
)


def implications_below(many):
    """Return all implications between sets of so many marks."""
    return [(premise, conclusion) for premise in sets_below(many) for conclusion in sets_below(many)]


# Tuples of implications between sets of at most five marks.
IMPLIED = (
    (),
    (((), ()),),
    (((), (0,)),),
    (((0,), ()),),
    (((0, 1), (1,)),),
    (((0,), (1,)), ((0,), (1,))),
    (((0,), (1,)), ((1,), (0,))),
    (((0,), (1,)), ((1,), (2,)), ((2,), (3,)), ((3,), (4,))),
    (((3,), (4,)), ((2,), (3,)), ((1,), (2,)), ((0,), (1,))),
    (((0, 1), (2,)), ((2, 3), (4,)), ((4,), (0, 1))),
    (((), (3,)), ((3,), (1, 2)), ((1, 2, 3), (0,))),
    (((0, 1, 2, 3, 4), ()), ((), (4,)), ((4,), (4,)), ((4,), (0, 4))),
    (((1, 2), (0,)), ((0,), (0, 1)), ((4,), (2,)), ((0, 2), (3,))),
    tuple(((mark,), (mark + 1, mark + 2)) for mark in range(3)) + (((3, 4), (0,)),) * 9,
)
