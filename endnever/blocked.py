"""Machines over blocks: a machine whose signs are blocks of two of another one."""

from endnever.blocks import through
from endnever.errors import NoSize
from endnever.lookers import shows
from endnever.machines import must_machine
from endnever.runs import run
from endnever.sorting import sorted_as

MOST_ROWS_OVER = 2
SIGNS_OVER = 2
# In the order in which a sign of the machine over blocks stands for them.
BLOCKS = ((0, 0), (0, 1), (1, 0), (1, 1))
SIDES = (-1, 1)


def entry_over(told):
    """The entry of the machine over blocks for what becomes of the first one in a block."""
    if told[0] != "out":
        return ()
    word, block, row, side, steps = told
    return (BLOCKS.index(block), side, 2 * row + SIDES.index(-side))


def over_blocks(machine):
    """(the machine over blocks of two, the rows and signs of its entries in which the first one stays)."""
    must_machine(machine)
    if len(machine) > MOST_ROWS_OVER or len(machine[0]) != SIGNS_OVER:
        raise NoSize("only machines of one or two rows and two signs have one over blocks")
    told = [[through(machine, block, row, side) for block in BLOCKS] for row in range(len(machine)) for side in SIDES]
    stays = [(row, sign) for row, ways in enumerate(told) for sign, way in enumerate(ways) if way == ("stay",)]
    return ([[entry_over(way) for way in ways] for ways in told], stays)


def read_at_end(machine, steps):
    """The row and the sign at whose entry a machine stands behind so many steps."""
    word, done, (row, place, strip) = run(machine, steps)
    return (row, dict(strip).get(place, 0))


def shows_by_blocks(machine, paper):
    """Whether a block paper shows that a machine never ends."""
    over, stays = over_blocks(machine)
    if not shows(over, paper):
        return False
    return paper[0] != "ends" or read_at_end(over, paper[1]) in stays


def block_paper(machine):
    """The block paper by which the machine over blocks is sorted, where it shows that the machine never ends."""
    over, stays = over_blocks(machine)
    paper = sorted_as(over)
    return paper if shows_by_blocks(machine, paper) else None
