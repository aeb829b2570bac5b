"""Sorting: the first kind of paper that a machine has."""

from endnever.goingback import MOST_DEPTH, no_back
from endnever.rings import drift, ring
from endnever.runs import run
from endnever.shut import MOST_WIDTHS, least_shut

MOST_STEPS = 200
MOST_TO = 60


def first_shut(machine):
    """The shut paper of the least width that has one, or None."""
    for width in range(1, MOST_WIDTHS[len(machine[0])] + 1):
        paper = least_shut(machine, width)
        if paper is not None:
            return paper
    return None


def never_paper(machine):
    """The first paper by which a machine never ends, or None; those that are dearer to look for come later."""
    paper = ring(machine, MOST_TO)
    if paper is None:
        paper = drift(machine, MOST_TO)
    if paper is None:
        paper = first_shut(machine)
    if paper is None:
        paper = no_back(machine, MOST_DEPTH)
    return paper


def sorted_as(machine):
    """The paper by which a machine is sorted, or ("open",)."""
    word, steps, setup = run(machine, MOST_STEPS)
    if word == "ends":
        return ("ends", steps)
    paper = never_paper(machine)
    return ("open",) if paper is None else paper
