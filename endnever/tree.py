"""The tree: all machines of a size, grown by one entry wherever one ends."""

from endnever.errors import NoSize
from endnever.goingback import entries_in
from endnever.machines import LEAST_SIGNS, MOST_ROWS, MOST_SIGNS, must_machine
from endnever.runs import looks
from endnever.sorting import MOST_STEPS, sorted_as

MOST_ENTRIES = 4


def must_size(rows, signs):
    """Refuses with NoSize what is no size, or one of more than four entries."""
    if not 1 <= rows <= MOST_ROWS or not LEAST_SIGNS <= signs <= MOST_SIGNS:
        raise NoSize("this is no size")
    if rows * signs > MOST_ENTRIES:
        raise NoSize("a machine of this size has more than four entries")


def first_machine(rows, signs):
    """The machine of a size all of whose entries are empty."""
    return [[()] * signs for row in range(rows)]


def full_entries(machine):
    """The entries of a machine that aren't empty."""
    return [entry for row, sign, entry in entries_in(machine) if entry != ()]


def signs_named(machine):
    """How many signs of a machine of the tree are named: they are named in order, so the last one tells it."""
    return 1 + max([put for put, way, after in full_entries(machine)], default=0)


def rows_named(machine):
    """How many rows of a machine of the tree are named."""
    return 1 + max([after for put, way, after in full_entries(machine)], default=0)


def new_entries(machine):
    """The entries that the children of a machine of the tree have in the place of the empty one, in order."""
    puts = min(signs_named(machine) + 1, len(machine[0]))
    afters = min(rows_named(machine) + 1, len(machine))
    # A machine and the one turned about do the same: so only those are grown whose first step goes to the right.
    ways = (1,) if full_entries(machine) == [] else (-1, 1)
    return [(put, way, after) for put in range(puts) for way in ways for after in range(afters)]


def with_entry(machine, end, entry):
    """Another machine with this entry at the row and sign of end."""
    told = [list(row) for row in machine]
    told[end[0]][end[1]] = entry
    return told


def end_of(machine):
    """The row and the sign at whose entry a machine ends, or None where it doesn't."""
    # Most machines of a tree are full: these need no run.
    if () not in [entry for row, sign, entry in entries_in(machine)]:
        return None
    row, place, sign = looks(machine, MOST_STEPS)[-1]
    return (row, sign) if machine[row][sign] == () else None


def grown(machine):
    """A machine of the tree and all that come of it, each ahead of its children."""
    told = [machine]
    end = end_of(machine)
    if end is not None:
        for entry in new_entries(machine):
            told += grown(with_entry(machine, end, entry))
    return told


def tree(rows, signs):
    """The nodes of a size's tree, (machine, paper) each."""
    must_size(rows, signs)
    return [(machine, sorted_as(machine)) for machine in grown(first_machine(rows, signs))]


def name_of(names, thing):
    """The name of a row or a sign: its place among those named; one that isn't named yet is named now."""
    if thing not in names:
        names.append(thing)
    return names.index(thing)


def node_of(machine):
    """(place of its node in the tree, rows named, signs named, turned) of a machine."""
    must_machine(machine)
    must_size(len(machine), len(machine[0]))
    rows = [0]
    signs = [0]
    turned = machine[0][0] != () and machine[0][0][1] == -1
    turn = -1 if turned else 1
    first = first_machine(len(machine), len(machine[0]))
    node = first
    end = end_of(node)
    while end is not None:
        entry = machine[rows[end[0]]][signs[end[1]]]
        if entry == ():
            break
        put, way, after = entry
        node = with_entry(node, end, (name_of(signs, put), way * turn, name_of(rows, after)))
        end = end_of(node)
    return (grown(first).index(node), rows, signs, turned)
