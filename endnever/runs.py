"""Runs of a machine, begun on the empty strip."""

from endnever.machines import Walk, first_setup, must_machine

# The last moment that a paper may speak of.
MOST_MOMENT = 1000


def begun(machine):
    """A walk at moment 0, refused with NoMachine ahead of all else."""
    must_machine(machine)
    return Walk(machine, first_setup())


def run(machine, most):
    """("ends", steps, setup) where the machine ends behind at most so many steps, else ("on", most, setup)."""
    walk = begun(machine)
    steps = 0
    while steps < most and walk.step():
        steps += 1
    # A machine that stands at an empty entry behind just the asked steps has ended, too.
    word = "ends" if walk.entry() == () else "on"
    return (word, steps, walk.setup())


def setups(machine, most):
    """All setups behind 0, 1, 2 .. steps, up to so many or up to the end."""
    walk = begun(machine)
    told = [walk.setup()]
    while len(told) <= most and walk.step():
        told.append(walk.setup())
    return told


def looks(machine, most):
    """The row, place and sign that is read, at each moment from 0 to most or up to the end."""
    walk = begun(machine)
    told = [walk.look()]
    while len(told) <= most and walk.step():
        told.append(walk.look())
    return told


def touched(machine, most):
    """The least and the greatest place that is read at the moments from 0 to most, or up to the end."""
    places = [place for row, place, sign in looks(machine, most)]
    return (min(places), max(places))
