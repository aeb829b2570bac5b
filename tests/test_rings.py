"""Points 9 and 10: rings and drifts."""

import unittest

import samples
from endnever.rings import drift, ring

# (paper, machine): the ring paper with the least later moment.
RINGS = [
    (("ring", 0, 2), samples.TO_AND_FRO),
    (("ring", 0, 2), [[(0, -1, 1), ()], [(0, 1, 0), ()]]),
    (("ring", 1, 3), [[(1, 1, 1), ()], [(0, -1, 2), ()], [(), (1, 1, 1)]]),
    # At moment 2 all is as at first, but the strip.
    (("ring", 0, 4), [[(1, 1, 1), (0, 1, 1)], [(0, -1, 0), (0, 1, 0)]]),
    (("ring", 8, 10), [[(0, 1, 1), ()], [(1, -1, 0), (1, 1, 2)], [(0, -1, 2), (1, -1, 1)]]),
    (("ring", 66, 88), [[(1, 1, 2), (3, -1, 1), (2, -1, 2), (0, 1, 2)], [(0, -1, 0), (3, -1, 0), (2, 1, 0), (0, -1, 1)],
                        [(2, -1, 1), (3, -1, 0), (0, 1, 2), (1, 1, 1)]]),
]

# (paper, machine): the drift paper with the least later moment.
DRIFTS = [
    (("drift", 0, 1), samples.RIGHT_FOR_EVER),
    (("drift", 0, 1), samples.LEFT_FOR_EVER),
    (("drift", 0, 1), [[(0, 1, 0), ()]]),
    (("drift", 0, 1), [[(0, -1, 0), ()]]),
    (("drift", 0, 2), [[(1, 1, 1), ()], [(0, 1, 0), ()]]),
    (("drift", 0, 2), [[(1, -1, 1), ()], [(0, -1, 0), ()]]),
    # Behind a step of its own it goes on for ever, over an empty strip.
    (("drift", 1, 2), [[(1, 1, 1), ()], [(0, 1, 1), ()]]),
    (("drift", 1, 2), [[(1, -1, 1), ()], [(0, -1, 1), ()]]),
    # Two places ahead and one back, again and again.
    (("drift", 1, 4), [[(1, 1, 1), (1, 1, 1)], [(1, 1, 2), ()], [(0, -1, 0), ()]]),
    (("drift", 94, 124), [[(2, 1, 3), (0, -1, 2), (1, 1, 2), (0, -1, 0)], [(0, 1, 3), (0, 1, 2), (1, -1, 3), (1, 1, 0)],
                          [(1, -1, 0), (1, -1, 1), (3, 1, 0), (1, -1, 0)],
                          [(2, -1, 2), (2, -1, 0), (1, -1, 1), (0, 1, 1)]]),
    (("drift", 80, 142), [[(3, 1, 1), (1, 1, 2), (0, 1, 2), (2, 1, 2)], [(3, -1, 0), (1, 1, 1), (0, 1, 3), (1, 1, 2)],
                          [(1, 1, 0), (2, 1, 3), (3, -1, 3), (1, -1, 3)],
                          [(0, 1, 1), (2, -1, 3), (3, -1, 0), (2, -1, 2)]]),
]

# Goes to and fro between two ends that come apart: neither ring nor drift.
SWEEPER = [[(1, 1, 1), (1, -1, 0)], [(1, -1, 0), (1, 1, 1)]]

# Passes over two marks in one row, each time with fewer of them ahead, and ends there; and the same turned about.
PASSERS = [[[(1, way, 1), ()], [(1, -way, 2), ()], [(), (1, way, 2)]] for way in (1, -1)]


def many_machines():
    told = [machine for _, machine in samples.ENDING + RINGS[:5] + DRIFTS[:9]]
    told += [SWEEPER] + PASSERS
    for rows, signs in samples.sizes():
        told += samples.mixed(rows, signs, 20)
    return told


class Rings(unittest.TestCase):

    def test_the_least_later_moment_and_one_too_few(self):
        for paper, machine in RINGS:
            for most in (paper[2], paper[2] + 1, 199, 200):
                self.assertEqual(ring(machine, most), paper)
            for most in (0, 1, paper[1], paper[2] - 1):
                self.assertIsNone(ring(machine, most))

    def test_none_where_the_machine_ends(self):
        for _, machine in samples.ENDING:
            for most in (0, 1, 2, 5, 20, 200):
                self.assertIsNone(ring(machine, most))

    def test_none_where_it_never_comes_round(self):
        for machine in [machine for _, machine in DRIFTS] + [SWEEPER]:
            for most in (0, 1, 2, 3, 200):
                self.assertIsNone(ring(machine, most))

    def test_none_for_no_moment(self):
        for machine in many_machines():
            self.assertIsNone(ring(machine, 0))
            self.assertIsNone(ring(machine, 1))

    def test_by_the_rule_gone_through_by_itself(self):
        found = 0
        for machine in many_machines():
            pairs = samples.pairs_that(samples.plain_ring, machine, 40)
            found += len(pairs) > 0
            for most in (0, 1, 2, 3, 7, 20, 39, 40):
                told = [(late, early) for early, late in pairs if late <= most]
                paper = ("ring", min(told)[1], min(told)[0]) if told else None
                self.assertEqual(ring(machine, most), paper)
        self.assertGreater(found, 5)

    def test_a_place_is_a_part_of_the_setup(self):
        # Its strip is empty and its row the same at every other moment, but the place isn't.
        self.assertIsNone(ring([[(0, 1, 1), ()], [(0, 1, 0), ()]], 200))


class Drifts(unittest.TestCase):

    def test_the_least_later_moment_and_one_too_few(self):
        for paper, machine in DRIFTS:
            for most in (paper[2], paper[2] + 1, 199, 200):
                self.assertEqual(drift(machine, most), paper)
            for most in (0, paper[1], paper[2] - 1):
                self.assertIsNone(drift(machine, most))

    def test_none_where_the_machine_ends(self):
        for _, machine in samples.ENDING:
            for most in (0, 1, 2, 5, 20, 200):
                self.assertIsNone(drift(machine, most))

    def test_none_for_moments_0_and_1(self):
        for machine in many_machines():
            self.assertIsNone(drift(machine, 0))
            if not samples.pairs_that(samples.plain_drift, machine, 1):
                self.assertIsNone(drift(machine, 1))
        for paper, machine in DRIFTS:
            if paper[2] > 1:
                self.assertIsNone(drift(machine, 1))

    def test_none_where_a_ring_or_a_sweep_goes_on(self):
        for machine in [machine for _, machine in RINGS] + [SWEEPER]:
            for most in (0, 1, 2, 3, 50, 200):
                self.assertIsNone(drift(machine, most))

    def test_unlike_signs_ahead_make_no_drift(self):
        for machine in PASSERS:
            self.assertFalse(samples.plain_drift(samples.plain_walk(machine, 3)[0], 2, 3))
            for most in range(10):
                self.assertIsNone(drift(machine, most))

    def test_by_the_rule_gone_through_by_itself(self):
        sides = []
        for machine in many_machines():
            pairs = samples.pairs_that(samples.plain_drift, machine, 30)
            if pairs:
                trail = samples.plain_walk(machine, 30)[0]
                sides.append(trail[pairs[0][0]][1] < trail[pairs[0][1]][1])
            for most in (0, 1, 2, 3, 4, 5, 9, 20, 29, 30):
                told = [(late, early) for early, late in pairs if late <= most]
                paper = ("drift", min(told)[1], min(told)[0]) if told else None
                self.assertEqual(drift(machine, most), paper)
        self.assertGreater(sides.count(True), 30)
        self.assertGreater(sides.count(False), 30)


if __name__ == "__main__":
    unittest.main()
