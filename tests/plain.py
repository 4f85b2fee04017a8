"""What the document says, done by a plain search, to compare the program with."""

from functools import lru_cache

from tests.samples import sets_below


def common_of(table, things):
    """Return what [c2] calls common, by sets."""
    found = set(range(table[1]))
    for thing in things:
        found &= set(table[2][thing])
    return tuple(sorted(found))


def having_of(table, marks):
    """Return what [c2] calls having, by sets."""
    return tuple(thing for thing, row in enumerate(table[2]) if set(marks) <= set(row))


def lectic_place(marks, many):
    """Return a tuple that is less the less the set is by [c4]: for each mark whether it stands in it."""
    return tuple(mark in marks for mark in range(many))


def all_closed(table):
    """Return the closed sets of marks in lectic order, by a search through all sets of marks."""
    found = [marks for marks in sets_below(table[1]) if common_of(table, having_of(table, marks)) == marks]
    return tuple(sorted(found, key=lambda marks: lectic_place(marks, table[1])))


def all_concepts(table):
    """Return all concepts in the lectic order of their marks."""
    return tuple((having_of(table, marks), marks) for marks in all_closed(table))


def is_below(concept, other):
    """Tell whether a concept is below another one, or is it."""
    return set(concept[0]) <= set(other[0])


def least_of(found):
    """Return the concept that is below all others of some."""
    (least,) = [concept for concept in found if all(is_below(concept, other) for other in found)]
    return least


def greatest_of(found):
    """Return the concept that is above all others of some."""
    (greatest,) = [concept for concept in found if all(is_below(other, concept) for other in found)]
    return greatest


def is_plain_order(many, above):
    """Tell whether for each element the set of those above it makes an order by [c6]."""
    numbers = range(many)
    return (
        all(x in above[x] for x in numbers)
        and all(z in above[x] for x in numbers for y in above[x] for z in above[y])
        and not any(x != y and y in above[x] and x in above[y] for x in numbers for y in numbers)
    )


def joins_of(order, some):
    """Return the elements above all of some that are below all that are above all of them."""
    _, many, above = order
    higher = [z for z in range(many) if all(z in above[x] for x in some)]
    return [z for z in higher if all(other in above[z] for other in higher)]


def meets_of(order, some):
    """Return the elements below all of some that are above all that are below all of them."""
    _, many, above = order
    lower = [z for z in range(many) if all(x in above[z] for x in some)]
    return [z for z in lower if all(z in above[other] for other in lower)]


def is_plain_lattice(many, above):
    """Tell whether for each element the set of those above it makes a lattice by [c6]."""
    pairs = [(x, y) for x in range(many) for y in range(many)]
    return many > 0 and is_plain_order(many, above) and all(
        joins_of(("order", many, above), pair) and meets_of(("order", many, above), pair) for pair in pairs
    )


def keeps_both_ways(order, other, places):
    """Tell whether the places of elements in another order stand there as the elements do."""
    return all(
        (y in order[2][x]) == (places[y] in other[2][places[x]])
        for x in range(order[1]) for y in range(order[1])
    )


def closure_of(table, marks):
    """Return what [c2] calls the closure of a set of marks."""
    return common_of(table, having_of(table, marks))


def has_kept(marks, implication):
    """Tell whether a set keeps an implication, by the sentence of [c5]."""
    premise, conclusion = implication
    return not set(premise) <= set(marks) or set(conclusion) <= set(marks)


def keepers(implications, many):
    """Return the sets of so many marks that keep all implications."""
    return [marks for marks in sets_below(many) if all(has_kept(marks, implication) for implication in implications)]


def follows(implications, implication, many):
    """Tell whether an implication follows, by a search through all sets of so many marks."""
    return all(has_kept(marks, implication) for marks in keepers(implications, many))


def is_right(implications, implication, numbers):
    """Tell whether some numbers of implications are a derivation by [i1]."""
    premise, conclusion = implication
    found = set(premise)
    for number in numbers:
        if not set(implications[number][0]) <= found:
            return False
        found |= set(implications[number][1])
    return set(conclusion) <= found


def is_plain_base(table, implications):
    """Tell whether some implications are a base by [i3], by a search through all implications."""
    every = [(premise, conclusion) for premise in sets_below(table[1]) for conclusion in sets_below(table[1])]
    kept = [implication for implication in every if all(has_kept(row, implication) for row in table[2])]
    return all(has_kept(row, implication) for row in table[2] for implication in implications) and all(
        has_kept(marks, implication) for marks in keepers(implications, table[1]) for implication in kept
    )


def all_pseudo_closed(table):
    """Return the pseudo-closed sets in lectic order, by the sentence of [i2]."""
    found = []
    for marks in sets_below(table[1]):
        parts = [part for part in found if set(part) < set(marks)]
        if closure_of(table, marks) != marks and all(set(closure_of(table, part)) <= set(marks) for part in parts):
            found.append(marks)
    return tuple(sorted(found, key=lambda marks: lectic_place(marks, table[1])))


def least_missing(table, implications):
    """Return the question of [x1], by a search through all sets of marks."""
    found = [marks for marks in keepers(implications, table[1]) if closure_of(table, marks) != marks]
    if not found:
        return None
    least = min(found, key=lambda marks: lectic_place(marks, table[1]))
    return (least, tuple(mark for mark in closure_of(table, least) if mark not in least))


def partings(many):
    """Return all ways to part so many elements: for each element the least one of its class."""
    found = [()]
    for x in range(many):
        found = [(*told, least) for told in found for least in (*sorted(set(told)), x)]
    return sorted(found)


def results_of(lattice):
    """Return for each two elements their join and their meet, by a search."""
    numbers = range(lattice[1])
    joins = [[joins_of(lattice, (x, y))[0] for y in numbers] for x in numbers]
    meets = [[meets_of(lattice, (x, y))[0] for y in numbers] for x in numbers]
    return joins, meets


def is_kept_by(results, told):
    """Tell whether a way to part the elements is a congruence by [q1]."""
    numbers = range(len(told))
    return all(
        told[table[x][z]] == told[table[y][z]]
        for x in numbers for y in numbers if told[x] == told[y] for z in numbers for table in results
    )


@lru_cache(maxsize=None)
def all_congruences(lattice):
    """Return all congruences, rising, by a search through all ways to part the elements."""
    results = results_of(lattice)
    return tuple(told for told in partings(lattice[1]) if is_kept_by(results, told))


def lies_within(told, other):
    """Tell whether the classes of one way to part the elements lie within those of another one."""
    numbers = range(len(told))
    return all(other[x] == other[y] for x in numbers for y in numbers if told[x] == told[y])
