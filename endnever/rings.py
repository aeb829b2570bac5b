"""Rings and drifts: a setup that comes again, in its place or led along.

The end needs no look of its own here: at the later moment the machine looks up the entry by which it did a step at the
earlier one, so this is not the empty one.
"""

from endnever.runs import setups


def setup_key(setup):
    row, place, strip = setup
    return (row, place, tuple(strip))


def ring(machine, most):
    """The ring paper with the least later moment, if this is no greater than most, else None."""
    moments = {}
    for late, setup in enumerate(setups(machine, most)):
        key = setup_key(setup)
        if key in moments:
            return ("ring", moments[key], late)
        moments[key] = late
    return None


def is_led_along(early, late, low, high):
    """Whether a later setup is an earlier one led along; low and high bound what is read from it to the later."""
    row, place, strip = early
    late_row, late_place, late_strip = late
    way = late_place - place
    if row != late_row or way == 0:
        return False
    # The places that the machine leaves behind may differ: it never comes back to them.
    if way > 0:
        led = [(where + way, sign) for where, sign in strip if where >= low]
        return led == [(where, sign) for where, sign in late_strip if where >= low + way]
    led = [(where + way, sign) for where, sign in strip if where <= high]
    return led == [(where, sign) for where, sign in late_strip if where <= high + way]


def first_drift(trail, late):
    """The least moment from which a drift leads to this one, or None."""
    told = None
    low = high = trail[late - 1][1]
    for early in reversed(range(late)):
        place = trail[early][1]
        low = min(low, place)
        high = max(high, place)
        if is_led_along(trail[early], trail[late], low, high):
            told = early
    return told


def drift(machine, most):
    """The drift paper with the least later moment, of these with the least earlier one, else None."""
    trail = setups(machine, most)
    for late in range(1, len(trail)):
        early = first_drift(trail, late)
        if early is not None:
            return ("drift", early, late)
    return None
