"""Sets: rising tuples of whole numbers."""


def are_numbers(value, many):
    """Tell whether a value is a tuple of numbers from 0 to many - 1, in any order."""
    # Not isinstance: it takes True and False for numbers, too.
    if type(value) is not tuple or any([type(number) is not int for number in value]):
        return False
    return all([0 <= number < many for number in value])


def is_set(value, many):
    """Tell whether a value is a set of numbers from 0 to many - 1."""
    return are_numbers(value, many) and value == tuple(sorted(set(value)))


def is_part(some, other):
    """Tell whether all numbers of a set are among those of another one."""
    return all([number in other for number in some])


def shared(some, other):
    """Return the numbers that stand in both of two sets."""
    return tuple([number for number in some if number in other])


def united(some, other):
    """Return the numbers that stand in one of two sets, or in both."""
    return tuple(sorted(set(some) | set(other)))


def lacking(some, other):
    """Return the numbers of a set that do not stand in another one."""
    return tuple([number for number in some if number not in other])


def mask_of(some):
    """Return a set as the number whose bits it tells."""
    return sum([1 << number for number in some])
