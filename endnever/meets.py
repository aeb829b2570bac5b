"""What a run meets: the entries, the places, the records, and where two machines part."""

from endnever.runs import begun, looks


def met_entries(machine, most):
    """Each (row, sign) that is looked up up to this moment or the end, once, in the order in which it is first."""
    met = {}
    for row, place, sign in looks(machine, most):
        met[(row, sign)] = True
    return list(met)


def visits(machine, most):
    """(place, count) of each place that is read up to this moment or the end, places rising."""
    counts = {}
    for row, place, sign in looks(machine, most):
        counts[place] = counts.get(place, 0) + 1
    return sorted(counts.items())


def records(machine, most):
    """(moment, place) of each moment at which a place is read that is beyond all read before."""
    told = [(0, 0)]
    low = high = 0
    for moment, (row, place, sign) in enumerate(looks(machine, most)):
        if not low <= place <= high:
            told.append((moment, place))
            low = min(low, place)
            high = max(high, place)
    return told


def parts_from(one, other, most):
    """The least moment up to this one at which the setups of two machines aren't the same, else None."""
    walk = begun(one)
    partner = begun(other)
    for moment in range(1, most + 1):
        # From one setup, two steps lead to the same setup just where they are done by the same entry.
        if walk.entry() != partner.entry():
            return moment
        if not walk.step():
            return None
        partner.step()
    return None
