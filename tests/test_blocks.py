"""Points 22 and 23: blocks."""

import copy
import itertools
import unittest

import samples
import test_rings
from endnever.blocks import by_blocks, through
from endnever.errors import NoMachine

# Goes to and fro; it ends at a 1 in its first row.
NEAR = [[(0, 1, 1), (), (2, 1, 0)], [(0, -1, 0), (1, 1, 1), (2, -1, 1)]]

# Each puts a 1, goes to one side, out of the first block, and goes to and fro there.
LEAVERS = [[[(1, way, 1), ()], [(0, way, 2), ()], [(0, -way, 1), ()]] for way in (-1, 1)]
LEAVERS.append([[(1, 1, 1), ()], [(1, 1, 2), ()], [(0, 1, 3), ()], [(0, -1, 2), ()]])


def plain_through(machine, block, row, side):
    """What becomes of it, by steps done one by one; so many as there are setups in the block are enough."""
    signs, place, steps = list(block), 0 if side == -1 else len(block) - 1, 0
    most = len(machine) * len(block) * len(machine[0]) ** len(block)
    while True:
        if place == -1 or place == len(block):
            return ("out", tuple(signs), row, -1 if place == -1 else 1, steps)
        entry = machine[row][signs[place]]
        if entry == ():
            return ("end", tuple(signs), row, place, steps)
        if steps > most:
            return ("stay",)
        signs[place], way, row = entry
        place += way
        steps += 1


def block_at(place, k):
    return place // k


def plain_blocks(trail, ended, k, many):
    """The walk by blocks, by a run that was done step by step; None where it is too short to tell it."""
    # Moments at which it comes into a block that it wasn't in before.
    into = [0] + [at for at in range(1, len(trail)) if block_at(trail[at][1], k) != block_at(trail[at - 1][1], k)]
    if len(into) > many:
        at, word = into[many], "on"
    elif ended:
        at, word = len(trail) - 1, "end"
    else:
        at, word = into[-1], "stay"
        if not samples.plain_ring(trail, *last_twice(trail[at:])):
            return None
    row, place, strip = trail[at]
    return (word, at, row, place, strip)


def last_twice(trail):
    """Two moments of a trail at which it stands in the same setup, or a moment twice where there are none."""
    for early in range(len(trail)):
        if trail[-1] == trail[early]:
            return early, len(trail) - 1
    return 0, 0


def small_machines():
    told = [machine for steps, machine in samples.ENDING if steps < 110] + samples.NEVER + [NEAR, test_rings.SWEEPER]
    told += [machine for paper, machine in test_rings.RINGS if paper[2] < 60]
    for rows, signs in samples.sizes():
        told += samples.mixed(rows, signs, 5)
    return told


class Through(unittest.TestCase):

    def test_out_at_each_side(self):
        for k in range(1, 5):
            noughts, ones = (0,) * k, (1,) * k
            self.assertEqual(through(samples.RIGHT_FOR_EVER, noughts, 0, -1), ("out", ones, 0, 1, k))
            self.assertEqual(through(samples.LEFT_FOR_EVER, noughts, 0, 1), ("out", ones, 0, -1, k))
            near = noughts[1:]
            self.assertEqual(through(samples.RIGHT_FOR_EVER, noughts, 0, 1), ("out", near + (1,), 0, 1, 1))
            self.assertEqual(through(samples.LEFT_FOR_EVER, noughts, 0, -1), ("out", (1,) + near, 0, -1, 1))

    def test_ended_at_once(self):
        for k in range(1, 5):
            for block in itertools.product(range(2), repeat=k):
                self.assertEqual(through(samples.EMPTY, block, 0, -1), ("end", block, 0, 0, 0))
                self.assertEqual(through(samples.EMPTY, block, 0, 1), ("end", block, 0, k - 1, 0))

    def test_ended_behind_some_steps(self):
        self.assertEqual(through(samples.RIGHT_FOR_EVER, (0, 0, 1, 0), 0, -1), ("end", (1, 1, 1, 0), 0, 2, 2))
        self.assertEqual(through(samples.LEFT_FOR_EVER, (1, 0, 0), 0, 1), ("end", (1, 1, 1), 0, 0, 2))
        self.assertEqual(through(NEAR, (0, 1), 0, -1), ("out", (0, 1), 1, 1, 2))
        self.assertEqual(through(NEAR, (2, 1), 0, -1), ("end", (2, 1), 0, 1, 1))

    def test_stays(self):
        for block in ((0, 0), (0, 0, 0), (0, 0, 1, 1)):
            self.assertEqual(through(samples.TO_AND_FRO, block, 0, -1), ("stay",))
        self.assertEqual(through(samples.TO_AND_FRO, (0, 0, 0), 1, 1), ("stay",))
        # Begun at the side of the first row's way, it gets out of the block at once.
        self.assertEqual(through(samples.TO_AND_FRO, (0, 0, 0), 0, 1), ("out", (0, 0, 0), 1, 1, 1))
        self.assertEqual(through(samples.TO_AND_FRO, (0,), 0, -1), ("out", (0,), 1, 1, 1))

    def test_steps_done_one_by_one(self):
        words = {}
        for machine in small_machines():
            for k in range(1, 5):
                blocks = list(itertools.product(range(len(machine[0])), repeat=k))
                for block in blocks[::1 + len(blocks) // 9]:
                    for row in range(len(machine)):
                        for side in (-1, 1):
                            told = through(machine, block, row, side)
                            self.assertEqual(told, plain_through(machine, block, row, side))
                            words[(k, side, told[0])] = True
        self.assertEqual(len(words), 2 * 11)

    def test_many_steps_in_a_block(self):
        machine = [[(1, 1, 2), (2, 1, 1), (2, 1, 2), (2, -1, 2)], [(2, -1, 3), (2, 1, 1), (3, -1, 0), (1, -1, 0)],
                   [(0, -1, 3), (1, -1, 3), (0, -1, 2), (3, -1, 3)], [(0, 1, 1), (3, 1, 2), (0, -1, 0), (0, 1, 2)]]
        told = through(machine, (0, 0, 0, 0), 0, -1)
        self.assertEqual(told, plain_through(machine, (0, 0, 0, 0), 0, -1))
        self.assertEqual((told[0], told[4]), ("out", 480))


class ByBlocks(unittest.TestCase):

    def test_told_into_none(self):
        for machine in small_machines():
            for k in range(1, 5):
                self.assertEqual(by_blocks(machine, k, 0), ("on", 0, 0, 0, []))

    def test_on_to_both_sides(self):
        for k in range(1, 5):
            for many in (1, 2, 3, 7, 299, 300):
                strip = [(place, 1) for place in range(k * many)]
                self.assertEqual(by_blocks(samples.RIGHT_FOR_EVER, k, many), ("on", k * many, 0, k * many, strip))
                steps = 1 + k * (many - 1)
                strip = [(place, 1) for place in range(1 - steps, 1)]
                self.assertEqual(by_blocks(samples.LEFT_FOR_EVER, k, many), ("on", steps, 0, -steps, strip))

    def test_ended(self):
        machine = [[(1, 1, 1), (1, -1, 1)], [(1, -1, 0), ()]]
        strip = [(-2, 1), (-1, 1), (0, 1), (1, 1)]
        for k, blocks in ((1, 6), (2, 2), (3, 2), (4, 2)):
            for many in (blocks, blocks + 1, 300):
                self.assertEqual(by_blocks(machine, k, many)[0], "end")
            self.assertEqual(by_blocks(machine, k, blocks - 1)[0], "on")
            self.assertEqual(by_blocks(machine, k, 300), ("end", 5, 1, -1, strip))
        for k in range(1, 5):
            self.assertEqual(by_blocks(samples.EMPTY, k, 1), ("end", 0, 0, 0, []))
            self.assertEqual(by_blocks(samples.EMPTY, k, 300), ("end", 0, 0, 0, []))

    def test_out_ahead_of_an_empty_entry_is_on(self):
        machine = [[(1, 1, 1), ()], [(), ()]]
        self.assertEqual(by_blocks(machine, 1, 1), ("on", 1, 1, 1, [(0, 1)]))
        self.assertEqual(by_blocks(machine, 1, 2), ("end", 1, 1, 1, [(0, 1)]))
        self.assertEqual(by_blocks(machine, 2, 1), ("end", 1, 1, 1, [(0, 1)]))

    def test_stays_with_what_was_told_at_the_blocks_begin(self):
        for k in (2, 3, 4):
            for many in (1, 2, 300):
                self.assertEqual(by_blocks(samples.TO_AND_FRO, k, many), ("stay", 0, 0, 0, []))
        left, right, farther = LEAVERS
        for k in (2, 3, 4):
            self.assertEqual(by_blocks(left, k, 1), ("on", 1, 1, -1, [(0, 1)]))
            for many in (2, 3, 300):
                self.assertEqual(by_blocks(left, k, many), ("stay", 1, 1, -1, [(0, 1)]))
        self.assertEqual(by_blocks(right, 2, 300), ("on", 301, 1, 1, [(0, 1)]))
        for k in (3, 4):
            self.assertEqual(by_blocks(right, k, 300), ("stay", 0, 0, 0, []))
        self.assertEqual(by_blocks(farther, 2, 1), ("on", 2, 2, 2, [(0, 1), (1, 1)]))
        for many in (2, 300):
            self.assertEqual(by_blocks(farther, 2, many), ("stay", 2, 2, 2, [(0, 1), (1, 1)]))
        self.assertEqual(by_blocks(samples.TO_AND_FRO, 1, 300), ("on", 300, 0, 0, []))
        self.assertEqual(by_blocks(samples.TO_AND_FRO, 1, 299), ("on", 299, 1, 1, []))

    def test_steps_done_one_by_one(self):
        words = {}
        for machine in small_machines() + LEAVERS:
            trail, ended = samples.plain_walk(machine, 150)
            for k, many in itertools.product(range(1, 5), (0, 1, 2, 3, 4, 5, 8, 13, 30)):
                plain = plain_blocks(trail, ended, k, many)
                if plain is not None:
                    told = by_blocks(machine, k, many)
                    self.assertEqual(told, plain)
                    words[(k, told[0], told[3] < 0)] = True
        kinds = [(k, word) for k in range(1, 5) for word in ("on", "end", "stay") if (k, word) != (1, "stay")]
        self.assertEqual(len(words), 2 * len(kinds))

    def test_up_to_three_hundred_blocks(self):
        # Its way grows like the square of the blocks' count: so only with K 1 and 2 a thousand steps tell it.
        for machine, k, many in ((test_rings.SWEEPER, 1, 300), (test_rings.SWEEPER, 2, 300),
                                 (samples.ENDING[7][1], 1, 300), (samples.ENDING[8][1], 1, 300)):
            trail, ended = samples.plain_walk(machine, 1200)
            plain = plain_blocks(trail, ended, k, many)
            self.assertIsNotNone(plain)
            self.assertEqual(by_blocks(machine, k, many), plain)


class Both(unittest.TestCase):

    def test_no_machine(self):
        for machine in samples.no_machines():
            with self.assertRaises(NoMachine):
                through(machine, (0, 0), 0, 1)
            for many in (0, 1, 9):
                with self.assertRaises(NoMachine):
                    by_blocks(machine, 2, many)

    def test_what_is_handed_in_stays_and_what_is_told_is_the_askers_own(self):
        for machine in small_machines():
            before = copy.deepcopy(machine)
            told = (through(machine, (0, 1, 0), 0, -1), by_blocks(machine, 3, 9))
            kept = copy.deepcopy(told)
            self.assertEqual(machine, before)
            self.assertFalse(samples.has_list_twice(told))
            samples.spoil(told)
            self.assertEqual((through(machine, (0, 1, 0), 0, -1), by_blocks(machine, 3, 9)), kept)


if __name__ == "__main__":
    unittest.main()
