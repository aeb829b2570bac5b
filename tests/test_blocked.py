"""Points 3, 28 and 29: machines over blocks of two, and block papers."""

import copy
import itertools
import unittest

import samples
import test_rings
from endnever.blocked import block_paper, over_blocks, shows_by_blocks
from endnever.errors import NoMachine, NoSize
from endnever.lookers import shows
from endnever.sorting import sorted_as
from test_blocks import plain_through
from test_tree import all_machines, drawn

ENDS = [[(1, 1, 1), (1, -1, 1)], [(1, -1, 0), ()]]
# (steps, machine): the machine over blocks ends behind so many steps, where the first one stays.
STAYERS = [
    (0, samples.TO_AND_FRO),
    (2, [[(1, -1, 1), (0, -1, 1)], [(0, 1, 1), (1, 1, 0)]]),
    (4, [[(1, -1, 1), (1, 1, 1)], [(1, 1, 0), (1, -1, 0)]]),
]
OTHER_SIZES = [(rows, signs) for rows, signs in samples.sizes() if rows > 2 or signs != 2]


def plain_over(machine):
    """The machine over blocks and the entries at which the first one stays, entry by entry."""
    over, stays = [], []
    for row in range(2 * len(machine)):
        over.append([])
        for sign in range(4):
            side = 1 if row % 2 else -1
            told = plain_through(machine, (sign // 2, sign % 2), row // 2, side)
            if told[0] == "out":
                word, (first, second), after, left_at, steps = told
                over[row].append((2 * first + second, left_at, 2 * after + (0 if left_at == 1 else 1)))
            else:
                over[row].append(())
            if told[0] == "stay":
                stays.append((row, sign))
    return over, stays


def plain_read_at_end(machine):
    """The row and the sign at which a machine ends behind at most 300 steps, or None."""
    trail, ended = samples.plain_walk(machine, 300)
    row, place, strip = trail[-1]
    return (row, dict(strip).get(place, 0)) if ended else None


def many_machines():
    told = list(all_machines(1, 2)) + list(drawn(2, 2, 17)) + [ENDS, test_rings.SWEEPER]
    return told + [machine for steps, machine in STAYERS]


def some_papers(over):
    """Papers of each kind for a machine over blocks, let by and not."""
    told = [("ends", steps) for steps in range(8)] + [("back", depth) for depth in range(10)] + [("open",)]
    told += [(kind, early, late) for kind in ("ring", "drift") for early, late in itertools.product(range(6), repeat=2)]
    words = list(itertools.product(range(4), repeat=1))
    middles = list(itertools.product(words, range(len(over)), range(4), words))
    told += [("shut", 1, words, words, middles), ("shut", 1, [(0,)], [(0,)], [((0,), 0, 0, (0,))])]
    told += [("shut", 3, [(0, 0, 0)], [(0, 0, 0)], [((0, 0, 0), 0, 0, (0, 0, 0))]), sorted_as(over)]
    return told


class OverBlocks(unittest.TestCase):

    def test_written_out(self):
        self.assertEqual(over_blocks(samples.EMPTY), ([[(), (), (), ()], [(), (), (), ()]], []))
        # Told in from the left it puts ones on both places; from the right it is out at once.
        told = ([[(3, 1, 0), (), (), ()], [(1, 1, 0), (), (3, 1, 0), ()]], [])
        self.assertEqual(over_blocks(samples.RIGHT_FOR_EVER), told)
        told = ([[(2, -1, 1), (3, -1, 1), (), ()], [(3, -1, 1), (), (), ()]], [])
        self.assertEqual(over_blocks(samples.LEFT_FOR_EVER), told)

    def test_stays(self):
        over, stays = over_blocks(samples.TO_AND_FRO)
        # Row 0 goes to the right, row 1 to the left; both end at a 1.
        self.assertEqual(stays, [(0, 0), (3, 0)])
        self.assertEqual(over, [
            [(), (), (), ()], [(0, 1, 2), (), (2, 1, 2), ()], [(0, -1, 1), (1, -1, 1), (), ()], [(), (), (), ()]])
        ever = [[(0, 1, 1), (1, 1, 1)], [(0, -1, 0), (1, -1, 0)]]
        stays = [(row, sign) for row in (0, 3) for sign in range(4)]
        self.assertEqual(over_blocks(ever)[1], stays)

    def test_blocks_gone_through_one_by_one(self):
        several = 0
        for machine in itertools.chain(all_machines(1, 2), drawn(2, 2, 5)):
            told = over_blocks(machine)
            self.assertEqual(told, plain_over(machine))
            several += len(told[1]) > 1
        self.assertGreater(several, 20)

    def test_does_in_a_step_what_the_first_does_from_block_to_block(self):
        for machine in many_machines():
            over, stays = over_blocks(machine)
            trail, ended = samples.plain_walk(machine, 120)
            over_trail, over_ended = samples.plain_walk(over, 20)
            into = [0] + [at for at in range(1, len(trail)) if trail[at][1] // 2 != trail[at - 1][1] // 2]
            for moment, (over_row, over_place, over_strip) in zip(into, over_trail):
                row, place, strip = trail[moment]
                self.assertEqual((over_row // 2, over_place), (row, place // 2))
                self.assertEqual(over_row % 2, place % 2)
                parted = [(2 * at + side, sign) for at, block in over_strip
                          for side, sign in enumerate((block // 2, block % 2)) if sign]
                self.assertEqual(parted, strip)
            if over_ended:
                self.assertEqual(plain_read_at_end(over) in stays, not ended)
                self.assertEqual(len(into), len(over_trail))

    def test_what_is_told_is_a_machine_of_twice_as_many_rows_and_four_signs(self):
        for machine in many_machines():
            over, stays = over_blocks(machine)
            self.assertEqual([len(row) for row in over], [4] * 2 * len(machine))
            self.assertEqual(stays, sorted(set(stays)))
            self.assertTrue(all(over[row][sign] == () for row, sign in stays))


class Papers(unittest.TestCase):

    def test_an_end_at_an_entry_of_stays_and_at_another_one(self):
        self.assertIs(shows_by_blocks(samples.TO_AND_FRO, ("ends", 0)), True)
        self.assertIs(shows_by_blocks(samples.TO_AND_FRO, ("ends", 1)), False)
        self.assertIs(shows_by_blocks(samples.EMPTY, ("ends", 0)), False)
        self.assertIs(shows(over_blocks(samples.EMPTY)[0], ("ends", 0)), True)
        steps = sorted_as(over_blocks(ENDS)[0])
        self.assertEqual(steps[0], "ends")
        self.assertIs(shows_by_blocks(ENDS, steps), False)
        for steps, machine in STAYERS:
            for told in range(7):
                self.assertIs(shows_by_blocks(machine, ("ends", told)), told == steps)

    def test_each_kind(self):
        self.assertIs(shows_by_blocks(samples.RIGHT_FOR_EVER, ("drift", 0, 1)), True)
        self.assertIs(shows_by_blocks(samples.RIGHT_FOR_EVER, ("drift", 1, 0)), False)
        self.assertIs(shows_by_blocks(samples.RIGHT_FOR_EVER, ("ring", 0, 1)), False)
        self.assertIs(shows_by_blocks(samples.RIGHT_FOR_EVER, ("open",)), False)
        # It goes to and fro between the blocks -1 and 0.
        fro = [[(0, -1, 1), ()], [(0, 1, 0), ()]]
        self.assertIs(shows_by_blocks(fro, ("ring", 0, 2)), True)
        self.assertIs(shows_by_blocks(fro, ("ring", 0, 1)), False)
        goer = [[(0, 1, 0), (1, 1, 0)]]
        self.assertIs(shows_by_blocks(goer, ("back", 1)), True)
        self.assertIs(shows_by_blocks(goer, ("back", 0)), False)
        self.assertIs(shows_by_blocks(ENDS, ("back", 1)), False)

    def test_as_the_looker_and_the_entries_tell(self):
        kinds = {}
        for machine in list(all_machines(1, 2)) + list(drawn(2, 2, 131)) + [samples.TO_AND_FRO, ENDS]:
            over, stays = plain_over(machine)
            for paper in some_papers(over):
                told = shows_by_blocks(machine, paper)
                plain = shows(over, paper)
                if paper[0] == "ends":
                    plain = plain and plain_read_at_end(over) in stays
                self.assertIs(told, plain)
                kinds[(paper[0], told)] = True
        for kind in ("ends", "ring", "drift", "back", "shut"):
            self.assertIn((kind, True), kinds)
            self.assertIn((kind, False), kinds)
        self.assertNotIn(("open", True), kinds)

    def test_whatever_is_shown_goes_on_for_a_thousand_steps(self):
        shown = 0
        for machine in list(all_machines(1, 2)) + list(drawn(2, 2, 53)) + [samples.TO_AND_FRO, ENDS]:
            papers = some_papers(over_blocks(machine)[0])
            if any([shows_by_blocks(machine, paper) for paper in papers]):
                shown += 1
                self.assertFalse(plain_ends(machine, 1000))
        self.assertGreater(shown, 40)


def plain_ends(machine, most):
    """Whether a machine ends behind at most so many steps."""
    strip, row, place = {}, 0, 0
    for _ in range(most + 1):
        entry = machine[row][strip.get(place, 0)]
        if entry == ():
            return True
        strip[place], way, row = entry
        place += way
    return False


class BlockPaper(unittest.TestCase):

    def test_written_out(self):
        for steps, machine in STAYERS:
            self.assertEqual(block_paper(machine), ("ends", steps))
        self.assertIsNone(block_paper(samples.EMPTY))
        self.assertIsNone(block_paper(ENDS))
        for machine in (samples.RIGHT_FOR_EVER, samples.LEFT_FOR_EVER):
            self.assertEqual(block_paper(machine)[0], "drift")

    def test_the_paper_by_which_the_machine_over_blocks_is_sorted(self):
        words = {}
        for machine in many_machines():
            over, stays = plain_over(machine)
            paper = sorted_as(over)
            told = block_paper(machine)
            ends_otherwise = paper[0] == "ends" and plain_read_at_end(over) not in stays
            if paper == ("open",) or ends_otherwise:
                self.assertIsNone(told)
            else:
                self.assertEqual(told, paper)
                self.assertIs(shows_by_blocks(machine, told), True)
                self.assertFalse(plain_ends(machine, 1000))
            words[told if told is None else told[0]] = True
        for kind in (None, "ends", "ring", "drift", "shut"):
            self.assertIn(kind, words)


class All(unittest.TestCase):

    def test_no_machine_goes_first(self):
        for machine in samples.no_machines():
            for ask in (over_blocks, block_paper, lambda asked: shows_by_blocks(asked, ("ends", 0))):
                with self.assertRaises(NoMachine):
                    ask(machine)

    def test_other_sizes_are_refused(self):
        for rows, signs in OTHER_SIZES:
            for machine in samples.mixed(rows, signs, 3) + [samples.filled(rows, signs)]:
                for ask in (over_blocks, block_paper, lambda asked: shows_by_blocks(asked, ("ends", 0))):
                    with self.assertRaises(NoSize):
                        ask(machine)

    def test_what_is_handed_in_stays_and_what_is_told_is_the_askers_own(self):
        for machine in many_machines()[::7]:
            papers = some_papers(over_blocks(machine)[0])
            before = copy.deepcopy((machine, papers))
            told = (over_blocks(machine), block_paper(machine), [shows_by_blocks(machine, paper) for paper in papers])
            kept = copy.deepcopy(told)
            self.assertEqual((machine, papers), before)
            self.assertFalse(samples.has_list_twice(told))
            samples.spoil(told)
            again = (over_blocks(machine), block_paper(machine), [shows_by_blocks(machine, paper) for paper in papers])
            self.assertEqual(again, kept)


if __name__ == "__main__":
    unittest.main()
