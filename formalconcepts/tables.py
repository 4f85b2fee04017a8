"""Tables: what is common to things, what has marks, and closures."""


def common(table, things):
    """Return the marks that all of some things have."""
    _, many, rows = table
    return tuple([mark for mark in range(many) if all([mark in rows[thing] for thing in things])])


def having(table, marks):
    """Return the things that have all of some marks."""
    rows = table[2]
    return tuple([thing for thing, row in enumerate(rows) if all([mark in row for mark in marks])])


def closure(table, marks):
    """Return what is common to the things that have some marks."""
    return common(table, having(table, marks))


def turned(table):
    """Return the table whose things are the marks and whose marks are the things."""
    _, many, rows = table
    return ("table", len(rows), tuple([having(table, (mark,)) for mark in range(many)]))
