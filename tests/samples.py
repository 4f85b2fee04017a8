"""Tables that several tests go through."""

from itertools import combinations, product


def sets_below(many):
    """Return all sets of the numbers 0 to many - 1."""
    return [some for size in range(many + 1) for some in combinations(range(many), size)]


def tables_up_to(things, marks):
    """Return all tables with at most so many things and marks."""
    return [
        ("table", many, rows)
        for many in range(marks + 1)
        for size in range(things + 1)
        for rows in product(sets_below(many), repeat=size)
    ]


# The table of the document's example.
EXAMPLE = ("table", 3, ((0, 1), (0, 2), (1,)))

NEITHER = ("table", 0, ())
NO_THINGS = ("table", 3, ())
NO_MARKS = ("table", 0, ((), ()))

# As many things and marks as [c7] lets pass.
GREATEST = ("table", 7, (
    (0, 1, 2, 3, 4, 5, 6),
    (0, 1, 2, 3, 4, 5),
    (1, 2, 3, 4, 5, 6),
    (0, 2, 4, 6),
    (1, 3, 5),
    (6,),
    (),
    (0, 6),
))
