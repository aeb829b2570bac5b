"""Point 6: runs, setups and the stretch."""

import copy
import unittest

import samples
from endnever.runs import run, setups, touched

MANY = 60


def plain_run(machine, most):
    told, ended = samples.plain_walk(machine, most)
    return ("ends" if ended else "on", len(told) - 1, told[-1])


def plain_stretch(machine, most):
    places = [place for _, place, _ in samples.plain_walk(machine, most)[0]]
    return (min(places), max(places))


def many_machines():
    told = [machine for _, machine in samples.ENDING] + samples.NEVER
    for rows, signs in samples.sizes():
        told += samples.mixed(rows, signs, 15)
    return told


class Runs(unittest.TestCase):

    def test_behind_no_step(self):
        self.assertEqual(run(samples.EMPTY, 0), ("ends", 0, (0, 0, [])))
        self.assertEqual(run(samples.RIGHT_FOR_EVER, 0), ("on", 0, (0, 0, [])))

    def test_behind_a_few_steps(self):
        self.assertEqual(run(samples.EMPTY, 1), ("ends", 0, (0, 0, [])))
        self.assertEqual(run(samples.RIGHT_FOR_EVER, 1), ("on", 1, (0, 1, [(0, 1)])))
        self.assertEqual(run(samples.LEFT_FOR_EVER, 3), ("on", 3, (0, -3, [(-2, 1), (-1, 1), (0, 1)])))
        self.assertEqual(run(samples.TO_AND_FRO, 3), ("on", 3, (1, 1, [])))
        self.assertEqual(run(samples.WIPER, 2), ("on", 2, (0, 0, [(0, 1)])))
        self.assertEqual(run(samples.WIPER, 3), ("ends", 3, (2, -1, [])))

    def test_behind_a_thousand_steps(self):
        told = ("on", 1000, (0, 1000, [(place, 1) for place in range(1000)]))
        self.assertEqual(run(samples.RIGHT_FOR_EVER, 1000), told)
        told = ("on", 1000, (0, -1000, [(place, 1) for place in range(-999, 1)]))
        self.assertEqual(run(samples.LEFT_FOR_EVER, 1000), told)
        self.assertEqual(run(samples.TO_AND_FRO, 1000), ("on", 1000, (0, 0, [])))

    def test_ends_behind_fewer_just_so_many_and_more_steps(self):
        for steps, machine in samples.ENDING:
            for most in (0, 1, steps - 2, steps - 1, steps, steps + 1, 2 * steps, 1000):
                if 0 <= most <= 1000:
                    word, count, _ = run(machine, most)
                    self.assertEqual((word, count), ("ends", steps) if steps <= most else ("on", most))

    def test_the_known_ends(self):
        told = run(samples.ENDING[4][1], 5)
        self.assertEqual(told, ("ends", 5, (1, -1, [(-2, 1), (-1, 1), (0, 1), (1, 1)])))
        word, steps, (row, _, strip) = run(samples.ENDING[7][1], 1000)
        self.assertEqual((word, steps, row, len(strip)), ("ends", 106, 2, 12))

    def test_as_the_plain_walk_goes(self):
        for machine in many_machines():
            for most in (0, 1, 2, 3, 4, 7, 20, 61, 200):
                self.assertEqual(run(machine, most), plain_run(machine, most))

    def test_long_runs_as_the_plain_walk_goes(self):
        for _, machine in samples.ENDING[6:]:
            self.assertEqual(run(machine, 1000), plain_run(machine, 1000))


class Setups(unittest.TestCase):

    def test_written_out(self):
        self.assertEqual(setups(samples.EMPTY, 0), [(0, 0, [])])
        self.assertEqual(setups(samples.EMPTY, 60), [(0, 0, [])])
        self.assertEqual(setups(samples.RIGHT_FOR_EVER, 0), [(0, 0, [])])
        self.assertEqual(setups(samples.RIGHT_FOR_EVER, 1), [(0, 0, []), (0, 1, [(0, 1)])])
        told = [(0, 0, []), (1, 1, [(0, 1)]), (0, 0, [(0, 1)]), (2, -1, [])]
        self.assertEqual(setups(samples.WIPER, 60), told)
        self.assertEqual(setups(samples.WIPER, 3), told)
        self.assertEqual(setups(samples.WIPER, 2), told[:3])

    def test_how_many_there_are(self):
        for steps, machine in samples.ENDING:
            for most in (0, 1, 4, 5, 6, 59, 60):
                self.assertEqual(len(setups(machine, most)), min(steps, most) + 1)
        for machine in samples.NEVER:
            self.assertEqual(len(setups(machine, 60)), 61)

    def test_as_the_plain_walk_goes(self):
        for machine in many_machines():
            for most in (0, 1, 2, 5, 59, 60):
                self.assertEqual(setups(machine, most), samples.plain_walk(machine, most)[0])

    def test_no_list_stands_at_two_places(self):
        for machine in many_machines():
            told = setups(machine, MANY)
            self.assertFalse(samples.has_list_twice(told))
            self.assertFalse(samples.share_a_list(told, machine))


class Stretches(unittest.TestCase):

    def test_written_out(self):
        for most in (0, 1, 2, 59, 1000):
            self.assertEqual(touched(samples.EMPTY, most), (0, 0))
            self.assertEqual(touched(samples.RIGHT_FOR_EVER, most), (0, most))
            self.assertEqual(touched(samples.LEFT_FOR_EVER, most), (-most, 0))
            self.assertEqual(touched(samples.TO_AND_FRO, most), (0, min(most, 1)))

    def test_the_place_of_the_end_is_read_too(self):
        self.assertEqual(touched(samples.WIPER, 2), (0, 1))
        self.assertEqual(touched(samples.WIPER, 3), (-1, 1))
        self.assertEqual(touched(samples.WIPER, 1000), (-1, 1))
        self.assertEqual(touched([[(1, 1, 1), ()], [(), ()]], 1000), (0, 1))
        self.assertEqual(touched([[(1, -1, 1), ()], [(), ()]], 1), (-1, 0))

    def test_as_the_plain_walk_goes(self):
        for machine in many_machines():
            for most in (0, 1, 2, 3, 5, 30, 200):
                self.assertEqual(touched(machine, most), plain_stretch(machine, most))
        for steps, machine in samples.ENDING[6:]:
            for most in (steps - 1, steps, steps + 1, 1000):
                self.assertEqual(touched(machine, most), plain_stretch(machine, most))


class RunsAreTheAskersOwn(unittest.TestCase):

    def test_what_is_handed_in_stays_as_it_was(self):
        for machine in many_machines():
            before = copy.deepcopy(machine)
            for ask in (run, setups, touched):
                ask(machine, MANY)
            self.assertEqual(machine, before)

    def test_the_same_is_told_again_whatever_became_of_the_first(self):
        for machine in many_machines():
            for ask in (run, setups, touched):
                for most in (0, 1, MANY):
                    told = ask(machine, most)
                    kept = copy.deepcopy(told)
                    samples.spoil(told)
                    self.assertEqual(ask(machine, most), kept)

    def test_what_was_told_stays_whatever_is_done_or_asked_later(self):
        for machine in many_machines():
            mine = copy.deepcopy(machine)
            told = [ask(mine, MANY) for ask in (run, setups, touched)]
            kept = copy.deepcopy(told)
            later = [ask(mine, MANY) for ask in (run, setups, touched)]
            samples.spoil(later)
            samples.spoil(mine)
            self.assertEqual(told, kept)

    def test_a_list_that_was_changed_behind_is_another_machine(self):
        machine = copy.deepcopy(samples.RIGHT_FOR_EVER)
        self.assertEqual(run(machine, 2), ("on", 2, (0, 2, [(0, 1), (1, 1)])))
        machine[0][0] = (1, -1, 0)
        self.assertEqual(run(machine, 2), ("on", 2, (0, -2, [(-1, 1), (0, 1)])))
        machine[0][0] = ()
        self.assertEqual(run(machine, 2), ("ends", 0, (0, 0, [])))


if __name__ == "__main__":
    unittest.main()
