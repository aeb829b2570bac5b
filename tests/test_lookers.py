"""Points 3 and 11: the looker, and that nothing which it lets by is false."""

import copy
import itertools
import unittest

import samples
import test_goingback
import test_rings
import test_shut
from endnever.errors import NoMachine
from endnever.lookers import shows

SMALL = [machine for steps, machine in samples.ENDING if steps <= 37] + samples.NEVER
SMALL += [machine for paper, machine in test_rings.RINGS[:5] + test_rings.DRIFTS[:9]] + [test_rings.SWEEPER]
SMALL += test_rings.PASSERS

ALL_KINDS = [("ends", 0), ("ends", 7), ("ring", 0, 2), ("ring", 3, 3), ("drift", 0, 1), ("drift", 9, 1), ("back", 1),
             ("back", 0), ("back", 9), ("shut", 1, [(0,)], [(0,)], [((0,), 0, 0, (0,))]), ("shut", 0, [], [], []),
             ("open",)]


def many_machines():
    told = list(SMALL)
    for rows, signs in samples.sizes():
        told += samples.mixed(rows, signs, 12)
    return told


class Ends(unittest.TestCase):

    def test_one_less_just_so_many_and_one_more(self):
        for steps, machine in samples.ENDING:
            for told in (0, 1, steps - 2, steps - 1, steps, steps + 1, steps + 2, 2 * steps, 999, 1000):
                if 0 <= told <= 1000:
                    self.assertIs(shows(machine, ("ends", told)), told == steps)

    def test_machines_that_never_end(self):
        for machine in samples.NEVER + [samples.filled(4, 4, (3, 1, 3))]:
            for steps in (0, 1, 2, 3, 500, 999, 1000):
                self.assertIs(shows(machine, ("ends", steps)), False)

    def test_beyond_a_thousand_there_is_no_such_paper(self):
        for steps, machine in samples.ENDING[-2:] + [(1000, samples.RIGHT_FOR_EVER)]:
            for told in (1001, 1002, 10 ** 30):
                self.assertIs(shows(machine, ("ends", told)), False)

    def test_as_the_plain_walk_goes(self):
        for machine in many_machines():
            trail, ended = samples.plain_walk(machine, 60)
            for steps in range(60):
                self.assertIs(shows(machine, ("ends", steps)), ended and steps == len(trail) - 1)


class RingsAndDrifts(unittest.TestCase):

    def test_every_pair_of_moments_of_small_machines(self):
        for kind, rule in (("ring", samples.plain_ring), ("drift", samples.plain_drift)):
            told = []
            for machine in SMALL:
                pairs = samples.pairs_that(rule, machine, 16)
                for early, late in itertools.product(range(17), repeat=2):
                    told.append(shows(machine, (kind, early, late)))
                    self.assertIs(told[-1], (early, late) in pairs, (machine, kind, early, late))
            self.assertGreater(told.count(True), 100)

    def test_pairs_of_moments_of_many_machines(self):
        for kind, rule in (("ring", samples.plain_ring), ("drift", samples.plain_drift)):
            for machine in many_machines():
                pairs = samples.pairs_that(rule, machine, 9)
                for early, late in itertools.combinations(range(10), 2):
                    self.assertIs(shows(machine, (kind, early, late)), (early, late) in pairs)

    def test_the_told_papers_are_let_by(self):
        for paper, machine in test_rings.RINGS + test_rings.DRIFTS:
            kind, early, late = paper
            other = "drift" if kind == "ring" else "ring"
            self.assertIs(shows(machine, paper), True)
            self.assertIs(shows(machine, (other, early, late)), False)
            self.assertIs(shows(machine, (kind, late, early)), False)
            self.assertIs(shows(machine, (kind, early, early)), False)
            self.assertIs(shows(machine, (kind, late, late)), False)
            self.assertIs(shows(machine, (kind, early, late - 1)), False)
            self.assertIs(shows(machine, (kind, early, 2 * late - early)), True)
            self.assertIs(shows(machine, (kind, early + 1, late + 1)), True)
            if early:
                self.assertIs(shows(machine, (kind, early - 1, late)), False)

    def test_moments_up_to_a_thousand(self):
        there = [(0, 2), (0, 1000), (998, 1000), (2, 1000), (1, 999), (499, 501), (500, 1000)]
        not_there = [(0, 1), (0, 999), (999, 1000), (1000, 998), (1000, 1000), (1000, 0), (0, 0), (1, 1000)]
        for early, late in there:
            self.assertIs(shows(samples.TO_AND_FRO, ("ring", early, late)), True)
        for early, late in not_there:
            self.assertIs(shows(samples.TO_AND_FRO, ("ring", early, late)), False)
        for machine in (samples.RIGHT_FOR_EVER, samples.LEFT_FOR_EVER):
            for early, late in ((0, 1), (0, 1000), (999, 1000), (1, 1000), (0, 999), (500, 1000)):
                self.assertIs(shows(machine, ("drift", early, late)), True)
                self.assertIs(shows(machine, ("drift", late, early)), False)
                self.assertIs(shows(machine, ("ring", early, late)), False)
            for moment in (0, 1, 500, 999, 1000):
                self.assertIs(shows(machine, ("drift", moment, moment)), False)

    def test_a_later_moment_at_the_end_or_beyond_it(self):
        for steps, machine in samples.ENDING:
            moments = [moment for moment in range(steps - 3, steps + 4) if 0 <= moment <= 1000]
            for early, late in itertools.product([0, 1] + moments, moments + [1000]):
                for kind in ("ring", "drift"):
                    self.assertIs(shows(machine, (kind, early, late)), False)

    def test_moments_below_0_show_nothing(self):
        for machine in SMALL:
            for kind in ("ring", "drift"):
                for early, late in ((-1, 0), (-1, 1), (-2, 2), (-3, -1), (-2, 1000)):
                    self.assertIs(shows(machine, (kind, early, late)), False)
            self.assertIs(shows(machine, ("ends", -1)), False)


class Back(unittest.TestCase):

    def test_each_depth(self):
        for least, machine in test_goingback.DEPTHS:
            for depth in list(range(13)) + [100, 1000]:
                self.assertIs(shows(machine, ("back", depth)), least <= depth <= 8)

    def test_machines_that_end(self):
        for _, machine in samples.ENDING + [(1, [[(1, 1, 1), (1, 1, 1)], [(), ()]])]:
            for depth in list(range(11)) + [1000]:
                self.assertIs(shows(machine, ("back", depth)), False)

    def test_machines_that_have_always_parts(self):
        for machine in (samples.RIGHT_FOR_EVER, samples.LEFT_FOR_EVER):
            for depth in list(range(11)) + [1000]:
                self.assertIs(shows(machine, ("back", depth)), False)

    def test_as_the_ways_back_tell(self):
        for rows, signs in ((1, 2), (1, 3), (2, 2), (3, 2), (2, 3)):
            for machine in samples.mixed(rows, signs, 30):
                for depth in range(4):
                    none = depth > 0 and not test_goingback.plain_parts(machine, depth)
                    ended = samples.plain_walk(machine, depth - 1)[1] if depth else True
                    self.assertIs(shows(machine, ("back", depth)), none and not ended)

    def test_more_than_300_parts_at_a_lesser_depth(self):
        self.assertIs(shows(test_goingback.MANY_PARTS, ("back", 4)), True)
        for machine, _ in test_goingback.TOO_MANY:
            for depth in range(10):
                self.assertIs(shows(machine, ("back", depth)), False)


class Shut(unittest.TestCase):

    def test_papers_let_by_and_not(self):
        for machine, paper in test_shut.WRITTEN:
            self.assertIs(shows(machine, paper), True)
            self.assertIs(shows(samples.EMPTY, paper), False)
            for at in range(3):
                for place in range(len(paper[2 + at])):
                    self.assertIs(shows(machine, test_shut.without(paper, at, place)), False)

    def test_words_middles_and_widths_that_are_none(self):
        machine, paper = test_shut.WRITTEN[0]
        for at, thing in ((0, (2,)), (1, (-1,)), (0, (0, 0)), (1, ()), (2, ((0,), 1, 0, (0,))),
                          (2, ((0,), -1, 0, (0,))), (2, ((0,), 0, 2, (0,))), (2, ((0, 0), 0, 0, (0,)))):
            self.assertIs(shows(machine, test_shut.with_more(paper, at, thing)), False)
        for width in (0, 2, 4, 5, 1000):
            self.assertIs(shows(machine, ("shut", width) + paper[2:]), False)

    def test_open_shows_nothing(self):
        for machine in many_machines():
            self.assertIs(shows(machine, ("open",)), False)


class WhateverIsLetBy(unittest.TestCase):

    def test_is_so(self):
        for machine in many_machines():
            trail, ended = samples.plain_walk(machine, 300)
            papers = [("ends", steps) for steps in range(40)] + [("back", depth) for depth in range(10)]
            papers += [(kind, early, late) for kind in ("ring", "drift") for early in range(6) for late in range(12)]
            papers += [paper for _, paper in test_shut.WRITTEN] + [test_shut.full(machine, 1)]
            for paper in papers:
                if shows(machine, paper):
                    self.assertEqual(ended, paper[0] == "ends", (machine, paper))
                    self.assertTrue(not ended or paper[1] == len(trail) - 1)

    def test_what_is_no_machine_is_refused_ahead_of_all_else(self):
        for machine in samples.no_machines():
            for paper in ALL_KINDS:
                with self.assertRaises(NoMachine):
                    shows(machine, paper)

    def test_what_is_handed_in_stays_as_it_was_and_the_same_is_told_again(self):
        for machine in many_machines():
            for paper in ALL_KINDS + [test_shut.full(machine, 1)]:
                before = copy.deepcopy((machine, paper))
                told = shows(machine, paper)
                self.assertIs(shows(machine, paper), told)
                self.assertEqual((machine, paper), before)


if __name__ == "__main__":
    unittest.main()
