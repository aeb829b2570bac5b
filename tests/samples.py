"""Machines for the tests, and a plain walk over them that shares nothing with the program."""

EMPTY = [[(), ()]]
RIGHT_FOR_EVER = [[(1, 1, 0), ()]]
LEFT_FOR_EVER = [[(1, -1, 0), ()]]
TO_AND_FRO = [[(0, 1, 1), ()], [(0, -1, 0), ()]]
# Puts a 1, comes back, puts a 0 over it and ends one place to the left.
WIPER = [[(1, 1, 1), (0, -1, 2)], [(0, -1, 0), ()], [(), ()]]
NEVER = [RIGHT_FOR_EVER, LEFT_FOR_EVER, TO_AND_FRO]

# (steps, machine): each ends behind so many steps.
ENDING = [
    (0, EMPTY),
    (1, [[(1, 1, 1), ()], [(), ()]]),
    (1, [[(0, -1, 1), ()], [(), ()]]),
    (3, WIPER),
    (5, [[(1, 1, 1), (1, -1, 1)], [(1, -1, 0), ()]]),
    (20, [[(1, 1, 1), ()], [(1, -1, 1), (0, 1, 2)], [(1, -1, 2), (1, -1, 0)]]),
    (37, [[(1, 1, 1), (2, -1, 1), ()], [(2, -1, 0), (2, 1, 1), (1, -1, 1)]]),
    (106, [[(1, 1, 1), (1, -1, 1)], [(1, -1, 0), (0, -1, 2)], [(), (1, -1, 3)], [(1, 1, 3), (0, 1, 0)]]),
    (999, [[(1, -1, 1), (1, -1, 0), (1, 1, 0)], [(1, 1, 2), (2, -1, 3), ()],
           [(2, -1, 3), (2, 1, 2), (2, -1, 0)], [(2, 1, 1), (0, 1, 2), (0, -1, 0)]]),
    (1000, [[(2, 1, 2), (0, -1, 0), (1, -1, 0)], [(2, 1, 2), (), (1, 1, 0)], [(2, -1, 0), (1, 1, 1), (0, 1, 0)]]),
    (1001, [[(1, -1, 3), (0, -1, 3), (1, 1, 2), (0, -1, 0)], [(1, -1, 0), (1, -1, 1), (), (1, 1, 3)],
            [(3, 1, 0), (3, 1, 2), (0, -1, 0), (3, 1, 1)], [(2, 1, 3), (0, 1, 1), (2, -1, 2), (3, -1, 1)]]),
]


def sizes():
    """All sizes of machines, from 1 row and 2 signs to 4 rows and 4 signs."""
    return [(rows, signs) for rows in range(1, 5) for signs in range(2, 5)]


def entries_of(rows, signs):
    """All entries of a size, the empty one first."""
    return [()] + [(sign, way, row) for sign in range(signs) for way in (-1, 1) for row in range(rows)]


def mixed(rows, signs, many):
    """So many machines of a size, the same ones each time, with all kinds of entries."""
    kinds = entries_of(rows, signs)
    number = 1 + rows * 10 + signs
    told = []
    for _ in range(many):
        machine = []
        for _ in range(rows):
            row = []
            for _ in range(signs):
                number = (number * 1103515245 + 12345) % 2 ** 31
                row.append(kinds[(number >> 8) % len(kinds)])
            machine.append(row)
        told.append(machine)
    return told


def filled(rows, signs, entry=()):
    """The machine of a size all of whose entries are the same."""
    return [[entry for _ in range(signs)] for _ in range(rows)]


def changed(machine, row, sign, entry):
    """Another machine like this one, but for one entry."""
    other = [list(entries) for entries in machine]
    other[row][sign] = entry
    return other


def plain_walk(machine, most):
    """(setups, ended): those behind 0 to most steps or up to the end, and whether it ended."""
    strip = [0] * (2 * most + 3)
    row, place = 0, 0
    middle = most + 1
    told = []
    while True:
        marks = [(at - middle, sign) for at, sign in enumerate(strip) if sign]
        told.append((row, place, marks))
        entry = machine[row][strip[middle + place]]
        if entry == ():
            return told, True
        if len(told) > most:
            return told, False
        strip[middle + place] = entry[0]
        place += entry[1]
        row = entry[2]


def plain_ring(trail, early, late):
    """Whether the moments make a ring, by the words of point 9; the trail is of a machine that goes on."""
    return early < late and trail[early] == trail[late]


def plain_drift(trail, early, late):
    """Whether the moments make a drift, by the words of point 10; the trail is of a machine that goes on."""
    if early >= late:
        return False
    row, place, strip = trail[early]
    late_row, late_place, late_strip = trail[late]
    if row != late_row or place == late_place:
        return False
    places = [where for _, where, _ in trail[early:late]]
    far = len(trail) + 2
    looked_at = range(min(places), 2 * far) if place < late_place else range(-2 * far, max(places) + 1)
    marks, late_marks = dict(strip), dict(late_strip)
    return all(marks.get(x, 0) == late_marks.get(x + late_place - place, 0) for x in looked_at)


def pairs_that(rule, machine, most):
    """All pairs of moments up to most that keep to a rule of two moments."""
    told, ended = plain_walk(machine, most)
    last = len(told) - 1 - ended
    return [(early, late) for late in range(last + 1) for early in range(last + 1) if rule(told, early, late)]


def no_machines():
    """Lists of lists of tuples of whole numbers that are no machines."""
    told = [[], [[]], [[], []], filled(5, 2), filled(5, 4), filled(12, 3)]
    for rows in range(1, 5):
        told += [filled(rows, 0), filled(rows, 1), filled(rows, 5), filled(rows, 9)]
    for rows in range(2, 5):
        for signs in range(2, 5):
            for at in range(rows):
                told += [uneven(rows, signs, at, other) for other in range(6) if other != signs]
    for rows, signs in sizes():
        for at in ((0, 0), (rows - 1, signs - 1)):
            for entry in no_entries(rows, signs):
                told.append(changed(filled(rows, signs), at[0], at[1], entry))
                told.append(changed(filled(rows, signs, (1, 1, 0)), at[0], at[1], entry))
    return told


def uneven(rows, signs, at, other):
    """The empty machine of a size, but for one row that has another count of entries."""
    return [[()] * (other if row == at else signs) for row in range(rows)]


def no_entries(rows, signs):
    """Tuples that are no entries of the size."""
    far = 10 ** 30
    told = [(0,), (1,), (0, 1), (1, -1), (0, 1, 0, 0), (0, -1, 0, 1), (0, 1, 0, 0, 1, 0)]
    told += [(sign, way, 0) for sign in (-1, signs, signs + 1, -2, far, -far) for way in (-1, 1)]
    told += [(0, way, 0) for way in (0, 2, -2, 3, far, -far)]
    told += [(0, way, row) for row in (-1, rows, rows + 1, -2, far, -far) for way in (-1, 1)]
    return told


def lists_in(value):
    """All lists that stand anywhere in a value, each as often as it stands there."""
    told = [value] if isinstance(value, list) else []
    if isinstance(value, (list, tuple)):
        for part in value:
            told += lists_in(part)
    return told


def share_a_list(one, other):
    """Whether some list stands in both values."""
    numbers = [id(part) for part in lists_in(one)]
    return any(id(part) in numbers for part in lists_in(other))


def has_list_twice(value):
    """Whether some list stands at two places of a value."""
    numbers = [id(part) for part in lists_in(value)]
    return len(numbers) != len(set(numbers))


def spoil(value):
    """Changes each list that stands in a value."""
    for part in lists_in(value):
        part.append((7, 3))
        part.reverse()
