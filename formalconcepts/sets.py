"""Sets: rising tuples of whole numbers."""


def is_set(value, many):
    """Tell whether a value is a set of numbers from 0 to many - 1."""
    # Not isinstance: it takes True and False for numbers, too.
    if type(value) is not tuple or any([type(number) is not int for number in value]):
        return False
    if any([number < 0 or number >= many for number in value]):
        return False
    return value == tuple(sorted(set(value)))


def is_part(some, other):
    """Tell whether all numbers of a set are among those of another one."""
    return all([number in other for number in some])


def shared(some, other):
    """Return the numbers that stand in both of two sets."""
    return tuple([number for number in some if number in other])


def mask_of(some):
    """Return a set as the number whose bits it tells."""
    return sum([1 << number for number in some])
