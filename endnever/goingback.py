"""Going back from the ends: what a setup must have, so that the machine ends behind so many steps."""

from endnever.machines import must_machine
from endnever.runs import run

MOST_PARTS = 300
MOST_DEPTH = 8


def entries_in(machine):
    """(row, sign, entry) of each entry of a machine."""
    return [(row, sign, entry) for row, entries in enumerate(machine) for sign, entry in enumerate(entries)]


def end_parts(machine):
    """The parts at depth 0, with their signs as tuples, in order."""
    return [(row, ((0, sign),)) for row, sign, entry in entries_in(machine) if entry == ()]


def part_ahead(signs, row, sign, put, way):
    """The part ahead of one with these signs, of a row and sign by whose entry put and way are done, or None."""
    there = dict(signs)
    if there.get(-way, put) != put:
        return None
    there[-way] = sign
    return (row, tuple(sorted([(place + way, there[place]) for place in there])))


def parts_ahead(machine, parts):
    """All parts that come ahead of some of these, each once, in order."""
    told = {}
    for goal, signs in parts:
        for row, sign, entry in entries_in(machine):
            if entry != () and entry[2] == goal:
                part = part_ahead(signs, row, sign, entry[0], entry[1])
                if part is not None:
                    told[part] = True
    return sorted(told)


def parts_at(machine, depth):
    """The parts at a depth, each once, in order."""
    must_machine(machine)
    parts = end_parts(machine)
    for deeper in range(depth):
        parts = parts_ahead(machine, parts)
    return [(row, list(signs)) for row, signs in parts]


def no_back(machine, most):
    """The back paper with the least depth up to most, or None."""
    must_machine(machine)
    parts = end_parts(machine)
    for depth in range(1, min(most, MOST_DEPTH) + 1):
        if len(parts) > MOST_PARTS:
            return None
        parts = parts_ahead(machine, parts)
        if parts == []:
            return None if run(machine, depth - 1)[0] == "ends" else ("back", depth)
    return None


def shows_back(machine, depth):
    """Whether the back paper of a depth shows that a machine never ends.

    Where there is no part at a depth, there is none at a greater one either: so the least such depth tells it of all.
    """
    return 1 <= depth <= MOST_DEPTH and no_back(machine, depth) is not None
