"""The census: how many machines of a size end behind how many steps, and those that do most.

All is reckoned from the tree: each machine of the size is led to just one of its nodes, and does the same steps.
"""

from endnever.runs import run
from endnever.sorting import MOST_STEPS
from endnever.tree import first_machine, full_entries, grown, must_size, rows_named, signs_named


def product(numbers):
    told = 1
    for number in numbers:
        told *= number
    return told


def kinds_of_entries(rows, signs):
    """How many entries there are for each place of a size's table, the empty one among them."""
    return 1 + signs * 2 * rows


def led_to(machine):
    """How many machines of the size are led to this machine of the tree and end there."""
    rows = len(machine)
    signs = len(machine[0])
    full = len(full_entries(machine))
    # Row 0 and sign 0 keep their names; each other name may go to any row or sign that hasn't one yet.
    row_choices = list(range(rows - rows_named(machine) + 1, rows))
    sign_choices = list(range(signs - signs_named(machine) + 1, signs))
    sides = [] if full == 0 else [2]
    # The empty entry at which it ends is no choice; the others that are empty are never looked up.
    unmet = [kinds_of_entries(rows, signs)] * (rows * signs - full - 1)
    return product(row_choices + sign_choices + sides + unmet)


def ended_nodes(rows, signs):
    """(machine, steps, marks) of each node of the tree that ends, in the tree's order."""
    must_size(rows, signs)
    told = []
    for machine in grown(first_machine(rows, signs)):
        word, steps, setup = run(machine, MOST_STEPS)
        if word == "ends":
            told.append((machine, steps, len(setup[2])))
    return told


def census(rows, signs):
    """(how many machines there are, (steps, count) for those that end, how many never end)."""
    counts = {}
    for machine, steps, marks in ended_nodes(rows, signs):
        counts[steps] = counts.get(steps, 0) + led_to(machine)
    many = product([kinds_of_entries(rows, signs)] * (rows * signs))
    return (many, sorted(counts.items()), many - sum(counts.values()))


def foremost(scored):
    """(the most, the machines that have it) of tuples (machine, number)."""
    most = max([number for machine, number in scored])
    return (most, [machine for machine, number in scored if number == most])


def greatest(rows, signs):
    """(the most steps behind which one ends, the machines of the tree that do)."""
    return foremost([(machine, steps) for machine, steps, marks in ended_nodes(rows, signs)])


def fullest(rows, signs):
    """(the most places with a sign other than 0 at an end, the machines of the tree that have so many)."""
    return foremost([(machine, marks) for machine, steps, marks in ended_nodes(rows, signs)])
