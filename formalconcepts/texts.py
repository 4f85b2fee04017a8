"""The text of a table, and the table of a text."""

from formalconcepts.errors import TextFault

HEAD = "marks "
DIGITS = "0123456789"
HAS = "x"
LACKS = "."


def write(table):
    """Return the text of a table."""
    _, many, rows = table
    lines = [f"{HEAD}{many}"]
    for row in rows:
        lines.append(signs_of(row, many))
    return "".join([line + "\n" for line in lines])


def read(text):
    """Return the table of a text; raise TextFault at its first fault."""
    lines = lines_of(text)
    many = many_told(lines)
    rows = []
    for number, line in enumerate(lines[1:], start=2):
        rows.append(row_of(line, number, many))
    # Only the last line can be unended, and its other faults come first:
    # so this is the last fault that a text can have.
    if not text.endswith("\n"):
        raise TextFault(len(lines), "unended")
    return ("table", many, tuple(rows))


def signs_of(row, many):
    """Return the line of a thing, without its newline."""
    return "".join([HAS if mark in row else LACKS for mark in range(many)])


def lines_of(text):
    """Return the lines of a text without their newlines."""
    # Not splitlines: it takes other signs for the ends of lines, too.
    lines = text.split("\n")
    if lines[-1] == "":
        # Nothing behind the last newline is not a line, but an empty line
        # before it is one (a thing of a table without marks).
        return lines[:-1]
    return lines


def many_told(lines):
    """Return how many marks the first line tells."""
    if lines == [] or not lines[0].startswith(HEAD):
        raise TextFault(1, "expected marks")
    word = lines[0][len(HEAD):]
    if not is_number(word):
        raise TextFault(1, "expected marks")
    return int(word)


def is_number(word):
    """Tell whether a word is a number of one or two digits without a zero in front."""
    # Not isdigit: it takes digits of other scripts, too.
    if any([sign not in DIGITS for sign in word]):
        return False
    if len(word) == 2:
        return word[0] != "0"
    return len(word) == 1


def row_of(line, number, many):
    """Return the marks of the thing that the line of this number tells."""
    if any([sign not in (HAS, LACKS) for sign in line]):
        raise TextFault(number, "unknown sign")
    if len(line) != many:
        raise TextFault(number, "wrong length")
    return tuple([mark for mark, sign in enumerate(line) if sign == HAS])
