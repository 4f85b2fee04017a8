"""Reduced tables: needless things and marks, and arrows."""

from formalconcepts.tables import common, having, turned


def needless_things(table):
    """Return the things that a table does not need."""
    rows = table[2]
    found = []
    for thing, row in enumerate(rows):
        # If the marks are common to some of those with more, then to all of these.
        if row in rows[:thing] or common(table, having_more(table, thing)) == row:
            found.append(thing)
    return tuple(found)


def needless_marks(table):
    """Return the marks that a table does not need."""
    return needless_things(turned(table))


def having_more(table, thing):
    """Return the things that have all marks of a thing and one more at least."""
    rows = table[2]
    return tuple([other for other in having(table, rows[thing]) if rows[other] != rows[thing]])


def reduced(table):
    """Return the table without what is needless, and the things and marks that stayed."""
    _, many, rows = table
    things = all_but(len(rows), needless_things(table))
    marks = all_but(many, needless_marks(table))
    left = []
    for thing in things:
        left.append(tuple([place for place, mark in enumerate(marks) if mark in rows[thing]]))
    return (("table", len(marks), tuple(left)), things, marks)


def all_but(many, some):
    """Return the numbers from 0 to many - 1 that are not some."""
    return tuple([number for number in range(many) if number not in some])


def arrows(table):
    """Return for each thing a text with a sign for each mark."""
    _, many, rows = table
    other = turned(table)
    texts = []
    for thing in range(len(rows)):
        texts.append("".join([sign_at(table, other, thing, mark) for mark in range(many)]))
    return tuple(texts)


def sign_at(table, other, thing, mark):
    """Return the sign of a thing and a mark of a table; the other table is the turned one."""
    if mark in table[2][thing]:
        return "x"
    down = points_down(table, thing, mark)
    up = points_down(other, mark, thing)
    if down and up:
        return "b"
    if down:
        return "d"
    if up:
        return "u"
    return "."


def points_down(table, thing, mark):
    """Tell whether each thing that has all marks of a thing and more has a mark."""
    rows = table[2]
    return all([mark in rows[other] for other in having_more(table, thing)])
