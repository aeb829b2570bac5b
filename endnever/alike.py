"""Like machines: rows and signs named otherwise, and ways turned about."""

from endnever.machines import must_machine


def orders(things):
    """All orders of a list."""
    if things == []:
        return [[]]
    told = []
    for at, first in enumerate(things):
        told += [[first] + rest for rest in orders(things[:at] + things[at + 1:])]
    return told


def namings(many):
    """All ways to name the numbers below many otherwise that leave 0 as it is: lists of new names by the old ones."""
    return [[0] + order for order in orders(list(range(1, many)))]


def named_entry(entry, row_names, sign_names, turn):
    if entry == ():
        return ()
    sign, way, row = entry
    return (sign_names[sign], way * turn, row_names[row])


def named(machine, row_names, sign_names, turn):
    """The machine with its rows and signs named so, and all ways turned about where turn is -1."""
    told = [list(row) for row in machine]
    for row, entries in enumerate(machine):
        for sign, entry in enumerate(entries):
            told[row_names[row]][sign_names[sign]] = named_entry(entry, row_names, sign_names, turn)
    return told


def least_form(machine):
    """The first in order of all machines that are like this one."""
    must_machine(machine)
    all_rows = namings(len(machine))
    all_signs = namings(len(machine[0]))
    return min([named(machine, rows, signs, turn) for rows in all_rows for signs in all_signs for turn in (-1, 1)])


def are_alike(one, other):
    """Whether two machines are like."""
    form = least_form(one)
    return form == least_form(other)


def groups(machines):
    """The places of like machines in a list, in order of the first place of each group."""
    firsts = []
    told = []
    for at, form in enumerate([least_form(machine) for machine in machines]):
        if form in firsts:
            told[firsts.index(form)].append(at)
        else:
            firsts.append(form)
            told.append([at])
    return told
