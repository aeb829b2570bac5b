"""Point 18: sorting."""

import unittest

import samples
import test_rings
import test_shut
from endnever.goingback import no_back
from endnever.lookers import shows
from endnever.shut import least_shut
from endnever.sorting import sorted_as

# (steps, machine): each ends behind so many steps.
LATE_ENDS = [
    (199, [[(2, 1, 2), (1, -1, 1), (3, -1, 1), (0, 1, 2)], [(3, -1, 2), (), (1, 1, 0), (3, -1, 0)],
           [(3, -1, 0), (2, -1, 0), (2, 1, 1), (0, 1, 1)]]),
    (200, [[(1, 1, 3), (0, -1, 2), (2, -1, 1)], [(2, -1, 1), (1, -1, 2), ()], [(1, 1, 2), (0, -1, 0), (2, 1, 3)],
           [(1, 1, 1), (1, 1, 3), (0, 1, 0)]]),
    (201, [[(1, -1, 1), (2, -1, 1), (1, 1, 1)], [(2, -1, 2), (2, -1, 1), (1, 1, 0)], [(2, 1, 1), (1, -1, 2), ()]]),
    (202, [[(1, -1, 2), (), (3, -1, 2), (1, 1, 2)], [(3, -1, 0), (2, 1, 1), (1, -1, 0), (3, 1, 2)],
           [(1, 1, 1), (2, 1, 2), (1, -1, 2), (2, -1, 1)]]),
]

# (least later moment, kind, machine): a ring or a drift at 60 or a little less.
SOON = [
    (60, "ring", [[(0, 1, 2), (2, -1, 1), (2, -1, 3)], [(1, 1, 2), (0, 1, 0), (0, 1, 0)],
                  [(0, -1, 3), (), (1, 1, 1)], [(0, -1, 1), (2, 1, 2), (2, -1, 0)]]),
    (60, "ring", [[(1, 1, 1), (2, -1, 0), (2, 1, 0)], [(2, 1, 2), (), (0, 1, 2)], [(0, 1, 3), (0, -1, 0), (1, -1, 0)],
                  [(0, -1, 3), (1, -1, 1), (2, -1, 2)]]),
    (59, "ring", [[(2, -1, 2), (2, 1, 1), (0, 1, 2)], [(2, -1, 0), (0, 1, 2), (1, 1, 3)], [(0, -1, 3), (), (2, 1, 2)],
                  [(2, 1, 0), (1, 1, 2), (2, -1, 1)]]),
    (60, "drift", [[(2, 1, 1), (2, -1, 1), (0, -1, 1)], [(2, -1, 0), (1, 1, 1), (0, -1, 2)],
                   [(0, -1, 2), (0, -1, 1), (1, 1, 0)]]),
    (59, "drift", [[(1, -1, 1), (3, 1, 0), (0, 1, 1), (1, -1, 0)], [(3, 1, 1), (2, 1, 0), (2, -1, 1), (2, -1, 0)]]),
]

# (least later moment, kind, how it is sorted, machine): a ring or a drift, but too late; a shut paper by its width.
TOO_LATE = [
    (61, "ring", ("open",), [
        [(1, -1, 2), (0, -1, 0), (3, 1, 0), ()], [(1, -1, 0), (2, 1, 3), (2, 1, 1), (1, 1, 1)],
        [(1, 1, 1), (1, -1, 2), (0, -1, 1), (1, 1, 3)], [(1, -1, 3), (1, 1, 2), (0, 1, 3), (3, 1, 1)]]),
    (61, "ring", ("shut", 1), [[(0, 1, 2), (1, -1, 2), (1, -1, 1)], [(1, -1, 0), (2, -1, 1), (2, 1, 2)],
                               [(0, -1, 1), (1, 1, 2), (1, 1, 1)], [(1, -1, 0), (), (0, 1, 3)]]),
    (61, "ring", ("shut", 2), [[(2, 1, 3), (1, -1, 1), (1, -1, 0)], [(), (1, 1, 0), (1, -1, 3)],
                               [(0, -1, 1), (0, -1, 3), (0, -1, 1)], [(2, -1, 0), (1, 1, 2), (0, -1, 0)]]),
    (61, "drift", ("open",), [[(2, 1, 1), (3, -1, 2), (1, 1, 0), (1, -1, 1)],
                              [(3, -1, 2), (1, -1, 2), (), (1, 1, 1)], [(1, 1, 1), (3, 1, 1), (3, 1, 2), (3, -1, 0)]]),
    (61, "drift", ("shut", 1), [[(2, 1, 1), (1, -1, 1), (2, -1, 1), (2, 1, 0)],
                                [(0, -1, 1), (0, 1, 0), (3, -1, 0), (1, 1, 0)]]),
    (61, "drift", ("shut", 2), [[(0, 1, 3), (), (0, -1, 3)], [(2, -1, 2), (1, 1, 0), (1, -1, 0)],
                                [(1, 1, 0), (), (2, 1, 0)], [(1, -1, 1), (2, 1, 3), (0, 1, 0)]]),
]

# (width, machine): sorted by shut sets of this width.
SHUT = [
    (1, [[(1, 1, 1), (1, -1, 0)], [(0, -1, 0), (0, 1, 1)]]),
    (1, [[(1, 1, 1), (2, -1, 0), (1, 1, 0)], [(2, -1, 0), (), (2, 1, 1)]]),
    (1, [[(0, 1, 1), (1, 1, 0), (2, -1, 0), (0, -1, 0)], [(3, -1, 0), (), (3, -1, 0), (2, 1, 1)]]),
    (2, [[(0, 1, 1), (1, -1, 0)], [(1, 1, 2), (1, 1, 1)], [(0, -1, 0), ()]]),
    (2, [[(1, 1, 1), (2, -1, 1), (1, 1, 1)], [(1, -1, 0), (0, 1, 0), ()]]),
    (2, [[(1, -1, 1), (1, -1, 0), (3, 1, 1), (2, -1, 0)], [(3, 1, 1), (1, 1, 0), (), ()]]),
    (3, [[(1, 1, 2), ()], [(1, 1, 2), (0, -1, 2)], [(1, -1, 1), (0, 1, 0)]]),
    (4, [[(1, 1, 1), (1, 1, 2)], [(1, -1, 2), ()], [(0, -1, 3), (0, 1, 0)], [(1, 1, 1), (0, -1, 1)]]),
]

# (depth, machine): sorted by a back paper of this depth. (With lesser depths, only machines with shut sets were found.)
BACK = [
    (6, [[(1, 1, 2), (2, -1, 3), (3, -1, 2), (2, -1, 2)], [(2, -1, 0), (0, -1, 0), (0, -1, 2), ()],
         [(2, -1, 0), (3, 1, 3), (1, 1, 3), (2, 1, 3)], [(1, -1, 0), (1, 1, 1), (3, 1, 1), (2, 1, 1)]]),
    (7, [[(0, 1, 2), (2, -1, 3), (3, -1, 2), (2, -1, 2)], [(2, -1, 0), (0, -1, 0), (0, -1, 2), ()],
         [(2, -1, 0), (3, 1, 3), (1, 1, 3), (2, 1, 3)], [(1, -1, 0), (1, 1, 1), (3, 1, 1), (2, 1, 1)]]),
    (8, [[(3, 1, 2), (2, 1, 2), (2, 1, 1), (2, 1, 3)], [(2, -1, 2), (2, 1, 1), (1, -1, 2), (2, -1, 1)],
         [(1, -1, 0), (1, 1, 3), (2, -1, 2), (2, 1, 3)], [(), (3, -1, 0), (2, 1, 1), (0, -1, 2)]]),
]

OPEN = [
    [[(1, 1, 2), (1, -1, 1)], [(1, -1, 0), ()], [(0, -1, 0), (0, 1, 2)]],
    [[(1, -1, 1), (0, -1, 0), ()], [(2, 1, 1), (2, 1, 0), (0, -1, 1)]],
    [[(2, 1, 1), (1, 1, 1), (0, -1, 1), (2, -1, 0)], [(1, -1, 0), (0, 1, 0), (), (3, -1, 0)]],
]


def has_pair(machine, rule):
    """Whether two moments up to 60 keep to the rule of rings, or that of drifts."""
    return samples.pairs_that(rule, machine, 60) != []


def first_shut(machine):
    """The least shut sets of the least width, by the plain reading, or None."""
    papers = [test_shut.plain_least(machine, width) for width in test_shut.WIDTHS[len(machine[0])]]
    return next((paper for paper in papers if paper is not None), None)


class Ends(unittest.TestCase):

    def test_up_to_two_hundred_steps(self):
        for steps, machine in samples.ENDING + LATE_ENDS:
            if steps <= 200:
                self.assertEqual(sorted_as(machine), ("ends", steps))

    def test_behind_more_steps_it_is_open(self):
        for steps, machine in samples.ENDING + LATE_ENDS:
            if steps > 200:
                self.assertEqual(sorted_as(machine), ("open",))

    def test_at_once(self):
        for rows, signs in samples.sizes():
            self.assertEqual(sorted_as(samples.filled(rows, signs)), ("ends", 0))


class RingsAndDrifts(unittest.TestCase):

    def check(self, machine, kind):
        told = sorted_as(machine)
        self.assertEqual((told[0], len(told)), (kind, 3))
        self.assertTrue(0 <= told[1] < told[2] <= 60)
        self.assertIs(shows(machine, told), True)

    def test_up_to_moment_60(self):
        for late, kind, machine in SOON:
            self.check(machine, kind)
            self.assertEqual(sorted_as(machine)[2], late)
        for paper, machine in test_rings.RINGS + test_rings.DRIFTS:
            if paper[2] <= 60:
                self.check(machine, paper[0])

    def test_a_later_one_is_not_taken(self):
        for late, kind, told, machine in TOO_LATE:
            self.assertEqual(sorted_as(machine)[:len(told)], told)
            rule = samples.plain_ring if kind == "ring" else samples.plain_drift
            self.assertEqual(min(pair[1] for pair in samples.pairs_that(rule, machine, 70)), late)

    def test_ahead_of_shut_sets_and_back_papers(self):
        self.check(samples.TO_AND_FRO, "ring")
        self.assertIsNotNone(least_shut(samples.TO_AND_FRO, 1))
        turner = [[(0, 1, 1), (0, 1, 1)], [(0, -1, 0), (0, -1, 0)]]
        self.check(turner, "ring")
        self.assertEqual(no_back(turner, 1), ("back", 1))
        self.check(samples.RIGHT_FOR_EVER, "drift")
        self.assertIsNotNone(least_shut(samples.RIGHT_FOR_EVER, 1))
        goer = samples.filled(3, 3, (2, -1, 1))
        self.check(goer, "drift")
        self.assertEqual(no_back(goer, 1), ("back", 1))


class Shut(unittest.TestCase):

    def test_the_least_sets_of_the_least_width(self):
        for width, machine in SHUT:
            told = sorted_as(machine)
            self.assertEqual(told[:2], ("shut", width))
            self.assertEqual(told, first_shut(machine))
            self.assertIs(shows(machine, told), True)

    def test_ahead_of_back_papers(self):
        for machine in (test_rings.SWEEPER, SHUT[0][1]):
            self.assertEqual(no_back(machine, 8), ("back", 1))
            self.assertEqual(sorted_as(machine)[:2], ("shut", 1))


class Back(unittest.TestCase):

    def test_the_least_depth(self):
        for depth, machine in BACK:
            self.assertEqual(sorted_as(machine), ("back", depth))
            self.assertIs(shows(machine, ("back", depth - 1)), False)
            self.assertIs(shows(machine, ("back", depth)), True)
            self.assertIsNone(first_shut(machine))


class Open(unittest.TestCase):

    def test_none_of_the_five(self):
        for machine in OPEN:
            self.assertEqual(sorted_as(machine), ("open",))
            self.assertFalse(samples.plain_walk(machine, 200)[1])
            self.assertFalse(has_pair(machine, samples.plain_ring))
            self.assertFalse(has_pair(machine, samples.plain_drift))
            self.assertIsNone(first_shut(machine))
            self.assertIsNone(no_back(machine, 8))


class All(unittest.TestCase):

    def plain_kind(self, machine):
        """The first of the five that a machine has, by plain readings; rings, drifts and back papers by kind alone."""
        trail, ended = samples.plain_walk(machine, 200)
        if ended:
            return ("ends", len(trail) - 1)
        if has_pair(machine, samples.plain_ring):
            return ("ring",)
        if has_pair(machine, samples.plain_drift):
            return ("drift",)
        paper = first_shut(machine)
        if paper is not None:
            return paper
        return ("open",) if no_back(machine, 8) is None else ("back",)

    def test_by_the_first_that_a_machine_has(self):
        kinds = {}
        for rows, signs in samples.sizes():
            for machine in samples.mixed(rows, signs, 6):
                told = sorted_as(machine)
                plain = self.plain_kind(machine)
                self.assertEqual(told[:len(plain)], plain)
                kinds[told[0]] = True
                self.assertIs(shows(machine, told), told != ("open",))
        self.assertGreaterEqual(len(kinds), 3)


if __name__ == "__main__":
    unittest.main()
