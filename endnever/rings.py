"""Rings and drifts: a setup that comes again, in its place or led along.

The searches, ring and drift, need no look at the end: at the later moment the machine looks up the very entry by which
it did a step at the earlier one, so this is not the empty one.
"""

from endnever.runs import MOST_MOMENT, begun, setups


def setup_key(setup):
    row, place, strip = setup
    return (row, place, tuple(strip))


def ring(machine, most):
    """The ring paper with the least later moment, if this is no greater than most, else None."""
    moments = {}
    for late, setup in enumerate(setups(machine, most)):
        key = setup_key(setup)
        if key in moments:
            return ("ring", moments[key], late)
        moments[key] = late
    return None


def is_led_along(early, late, low, high):
    """Whether a later setup is an earlier one led along; low and high bound what is read from it to the later."""
    row, place, strip = early
    late_row, late_place, late_strip = late
    way = late_place - place
    if row != late_row or way == 0:
        return False
    # The places that the machine leaves behind may differ: it never comes back to them.
    if way > 0:
        led = [(where + way, sign) for where, sign in strip if where >= low]
        return led == [(where, sign) for where, sign in late_strip if where >= low + way]
    led = [(where + way, sign) for where, sign in strip if where <= high]
    return led == [(where, sign) for where, sign in late_strip if where <= high + way]


def first_drift(trail, late):
    """The least moment from which a drift leads to this one, or None."""
    told = None
    low = high = trail[late - 1][1]
    for early in reversed(range(late)):
        place = trail[early][1]
        low = min(low, place)
        high = max(high, place)
        if is_led_along(trail[early], trail[late], low, high):
            told = early
    return told


def drift(machine, most):
    """The drift paper with the least later moment, of these with the least earlier one, else None."""
    trail = setups(machine, most)
    for late in range(1, len(trail)):
        early = first_drift(trail, late)
        if early is not None:
            return ("drift", early, late)
    return None


def walked(walk, steps):
    """The least and the greatest place read ahead of so many steps, which are done; None where the machine ends."""
    low = high = walk.place
    for moment in range(steps):
        low = min(low, walk.place)
        high = max(high, walk.place)
        if not walk.step():
            return None
    return (low, high)


def between(machine, early, late):
    """The setups at two moments, and the least and the greatest place read from the one to just ahead of the other.

    None, where they are no two moments of a paper, or the machine ends behind so many steps.
    """
    walk = begun(machine)
    if not 0 <= early < late <= MOST_MOMENT:
        return None
    if walked(walk, early) is None:
        return None
    first = walk.setup()
    stretch = walked(walk, late - early)
    if stretch is None or walk.entry() == ():
        return None
    return (first, walk.setup(), stretch[0], stretch[1])


def shows_ring(machine, early, late):
    """Whether the ring paper of two moments shows that a machine never ends."""
    both = between(machine, early, late)
    return both is not None and both[0] == both[1]


def shows_drift(machine, early, late):
    """Whether the drift paper of two moments shows that a machine never ends."""
    both = between(machine, early, late)
    return both is not None and is_led_along(both[0], both[1], both[2], both[3])
