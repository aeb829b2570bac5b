"""Blocks: a machine told into a stretch of the strip, and walked from block to block."""

from endnever.machines import Walk, must_machine


def near_place(many, side):
    """The place, counted from a block's first one, at which a machine is told into a block of so many signs."""
    return 0 if side == -1 else many - 1


def signs_in(walk, many):
    """The signs of the block in which a walk goes on, as they are now."""
    return tuple([walk.marks.get(place, 0) for place in range(many)])


def through(machine, block, row, side):
    """What becomes of a machine that is told into a block: ("out", ..), ("end", ..) or ("stay",)."""
    must_machine(machine)
    many = len(block)
    walk = Walk(machine, (row, near_place(many, side), list(enumerate(block))))
    seen = {}
    steps = 0
    while 0 <= walk.place < many:
        key = (walk.row, walk.place, signs_in(walk, many))
        if key in seen:
            return ("stay",)
        seen[key] = True
        if not walk.step():
            return ("end", signs_in(walk, many), walk.row, walk.place, steps)
        steps += 1
    return ("out", signs_in(walk, many), walk.row, -1 if walk.place < 0 else 1, steps)


def strip_of(blocks, k):
    """The strip whose blocks of k signs are kept by their places in a dict."""
    return [(at * k + place, sign) for at in sorted(blocks) for place, sign in enumerate(blocks[at]) if sign != 0]


def by_blocks(machine, k, many):
    """(word, steps, row, place, strip) of a machine that is told into so many blocks, one behind the other."""
    must_machine(machine)
    blocks = {}
    at = row = steps = 0
    side = -1
    for count in range(many):
        told = through(machine, blocks.get(at, (0,) * k), row, side)
        if told == ("stay",):
            return ("stay", steps, row, at * k + near_place(k, side), strip_of(blocks, k))
        word, block, row, where, done = told
        blocks[at] = block
        steps += done
        if word == "end":
            return ("end", steps, row, at * k + where, strip_of(blocks, k))
        at += where
        side = -where
    return ("on", steps, row, at * k + near_place(k, side), strip_of(blocks, k))
