"""The looker: whether a paper shows of a machine what it tells."""

from endnever.goingback import shows_back
from endnever.machines import must_machine
from endnever.rings import shows_drift, shows_ring
from endnever.runs import MOST_MOMENT, run
from endnever.shut import shows_shut


def shows_end(machine, steps):
    """Whether a machine ends behind just so many steps."""
    if not 0 <= steps <= MOST_MOMENT:
        return False
    word, done, setup = run(machine, steps)
    return word == "ends" and done == steps


def shows(machine, paper):
    """Whether a paper of any kind shows what it tells; one that is open shows nothing."""
    must_machine(machine)
    kind = paper[0]
    if kind == "ends":
        return shows_end(machine, paper[1])
    if kind == "ring":
        return shows_ring(machine, paper[1], paper[2])
    if kind == "drift":
        return shows_drift(machine, paper[1], paper[2])
    if kind == "back":
        return shows_back(machine, paper[1])
    if kind == "shut":
        return shows_shut(machine, paper)
    return False
