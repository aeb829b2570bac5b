"""Points 24 and 25: strips by runs, and long strides."""

import copy
import itertools
import unittest

import samples
import test_rings
from endnever.errors import NoMachine
from endnever.strides import by_strides, runs_of

NOTHING = ([], 0, [])
FAR = 10 ** 30 - 1
ENDS = [[(1, 1, 1), (1, -1, 1)], [(1, -1, 0), ()]]

# Strips as point 4 tells them.
STRIPS = [
    [],
    [(0, 1)],
    [(-3, 2)],
    [(5, 1)],
    [(-2, 1), (-1, 1), (0, 1), (1, 1)],
    [(-4, 1), (-3, 2), (-2, 2), (0, 3), (1, 3), (2, 3), (4, 1)],
    [(-1000, 1), (-999, 1), (-5, 2), (7, 2), (999, 3), (1000, 1)],
    [(3, 1), (4, 1), (5, 2), (6, 1)],
    [(-6, 1), (-5, 2), (-4, 2)],
]


def plain_runs(strip, place):
    """The strip by runs, found place by place."""
    marks = dict(strip)
    left = [marks.get(where, 0) for where in range(-1100, place)]
    right = [marks.get(where, 0) for where in range(place + 1, 1100)]
    return (grouped(left, 0), marks.get(place, 0), grouped(right, -1))


def grouped(signs, far):
    """(sign, many) of the runs of like signs, but for noughts at the far end."""
    told = [(sign, len(list(same))) for sign, same in itertools.groupby(signs)]
    if told and told[far][0] == 0:
        del told[far]
    return told


def strip_of(runs, many):
    """The signs of a strip by runs, place by place, with so many noughts at both sides, and the machine's place."""
    left, sign, right = runs
    signs = [0] * many
    for run_sign, count in left:
        signs += [run_sign] * count
    place = len(signs)
    signs.append(sign)
    for run_sign, count in right:
        signs += [run_sign] * count
    return signs + [0] * many, place


def plain_strides(machine, row, runs, many):
    """The same by single steps; the noughts at both sides are enough for as many strides."""
    signs, place = strip_of(runs, many + 2)
    steps = strides = 0
    while True:
        entry = machine[row][signs[place]]
        if entry == ():
            word = "end"
            break
        here, way = signs[place], entry[1]
        ahead = signs[place:] if way == 1 else signs[place::-1]
        through = entry[2] == row
        if through and here == 0 and not any(ahead):
            word = "never"
            break
        if strides == many:
            word = "on"
            break
        strides += 1
        while True:
            signs[place] = entry[0]
            place += way
            row = entry[2]
            steps += 1
            if not through or signs[place] != here:
                break
    return (word, steps, row, (grouped(signs[:place], 0), signs[place], grouped(signs[place + 1:], -1)))


def some_runs(signs):
    """Strips by runs with signs below so many."""
    high = signs - 1
    told = [NOTHING, ([], 1, []), ([(1, 1)], 0, []), ([], 0, [(1, 2)]), ([(1, 3)], 1, [(1, 4)])]
    told += [([(1, 2), (0, 3)], 0, [(0, 2), (high, 1)]), ([(high, 1), (0, 1), (1, 2)], 0, [(1, 1), (0, 4), (1, 2)])]
    told += [([(1, 1), (0, 2)], high, [(high, 5), (0, 1), (1, 1)]), ([], 0, [(0, 5), (1, 1)]), ([(high, 4)], high, [])]
    return told


def many_machines():
    told = [machine for steps, machine in samples.ENDING if steps < 110] + samples.NEVER + [test_rings.SWEEPER]
    for rows, signs in samples.sizes():
        told += samples.mixed(rows, signs, 5)
    return told


class RunsOf(unittest.TestCase):

    def test_written_out(self):
        self.assertEqual(runs_of([], 0), NOTHING)
        self.assertEqual(runs_of([], 77), NOTHING)
        self.assertEqual(runs_of([(0, 2)], 0), ([], 2, []))
        self.assertEqual(runs_of([(0, 2)], 1), ([(2, 1)], 0, []))
        self.assertEqual(runs_of([(0, 2)], -1), ([], 0, [(2, 1)]))
        self.assertEqual(runs_of([(0, 2)], 4), ([(2, 1), (0, 3)], 0, []))
        self.assertEqual(runs_of([(0, 2)], -4), ([], 0, [(0, 3), (2, 1)]))
        strip = [(-3, 1), (-2, 1), (0, 2), (1, 2), (2, 1), (5, 3)]
        self.assertEqual(runs_of(strip, 0), ([(1, 2), (0, 1)], 2, [(2, 1), (1, 1), (0, 2), (3, 1)]))
        self.assertEqual(runs_of(strip, 3), ([(1, 2), (0, 1), (2, 2), (1, 1)], 0, [(0, 1), (3, 1)]))
        self.assertEqual(runs_of(strip, -1), ([(1, 2)], 0, [(2, 2), (1, 1), (0, 2), (3, 1)]))

    def test_place_by_place(self):
        for strip in STRIPS:
            for place in list(range(-9, 10)) + [-1000, -999, -998, -500, 500, 998, 999, 1000]:
                self.assertEqual(runs_of(strip, place), plain_runs(strip, place))

    def test_of_the_setups_of_runs(self):
        for machine in many_machines():
            for row, place, strip in samples.plain_walk(machine, 25)[0]:
                self.assertEqual(runs_of(strip, place), plain_runs(strip, place))

    def test_what_is_handed_in_stays_and_what_is_told_is_the_askers_own(self):
        for strip in STRIPS:
            mine = list(strip)
            told = runs_of(mine, 1)
            kept = copy.deepcopy(told)
            self.assertEqual(mine, strip)
            self.assertFalse(samples.has_list_twice(told))
            samples.spoil(mine)
            self.assertEqual(told, kept)
            samples.spoil(told)
            self.assertEqual(runs_of(strip, 1), kept)


class Strides(unittest.TestCase):

    def test_no_stride(self):
        runs = ([(1, 2)], 0, [(1, 3)])
        self.assertEqual(by_strides(samples.RIGHT_FOR_EVER, 0, runs, 0), ("on", 0, 0, runs))
        self.assertEqual(by_strides(samples.RIGHT_FOR_EVER, 0, NOTHING, 0), ("never", 0, 0, NOTHING))
        self.assertEqual(by_strides(samples.RIGHT_FOR_EVER, 0, ([], 1, []), 0), ("end", 0, 0, ([], 1, [])))

    def test_through_a_run_in_one_stride(self):
        runs = ([], 0, [(0, 6), (1, 2)])
        self.assertEqual(by_strides(samples.RIGHT_FOR_EVER, 0, runs, 1), ("end", 7, 0, ([(1, 7)], 1, [(1, 1)])))
        runs = ([(1, 2), (0, 6)], 0, [])
        self.assertEqual(by_strides(samples.LEFT_FOR_EVER, 0, runs, 1), ("end", 7, 0, ([(1, 1)], 1, [(1, 7)])))

    def test_one_step_where_the_row_changes(self):
        told = by_strides(samples.TO_AND_FRO, 0, ([], 0, [(0, 5), (1, 1)]), 1)
        self.assertEqual(told, ("on", 1, 1, ([], 0, [(0, 4), (1, 1)])))
        told = by_strides(samples.TO_AND_FRO, 0, NOTHING, 500)
        self.assertEqual(told, ("on", 500, 0, NOTHING))

    def test_the_end_behind_as_many_strides(self):
        for many, told in ((0, "on"), (4, "on"), (5, "end"), (6, "end"), (500, "end")):
            self.assertEqual(by_strides(ENDS, 0, NOTHING, many)[0], told)
        self.assertEqual(by_strides(ENDS, 0, NOTHING, 500), ("end", 5, 1, ([(1, 1)], 1, [(1, 2)])))

    def test_never_is_neither_done_nor_counted(self):
        for put in (0, 1):
            for way in (-1, 1):
                machine = [[(put, way, 0), (1, way, 0)]]
                self.assertEqual(by_strides(machine, 0, NOTHING, 9), ("never", 0, 0, NOTHING))
                runs = ([], 1, [(1, 4)]) if way == 1 else ([(1, 4)], 1, [])
                left, right = ([(1, 5)], []) if way == 1 else ([], [(1, 5)])
                # The stride through the ones is done, that behind them would be for ever.
                self.assertEqual(by_strides(machine, 0, runs, 0), ("on", 0, 0, runs))
                for many in (1, 2, 500):
                    self.assertEqual(by_strides(machine, 0, runs, many), ("never", 5, 0, (left, 0, right)))

    def test_not_never_where_signs_stand_ahead_or_the_row_changes(self):
        machine = [[(0, 1, 0), (1, -1, 1)], [(0, 1, 0), ()]]
        told = by_strides(machine, 0, ([], 0, [(0, 9), (1, 1)]), 1)
        self.assertEqual(told, ("on", 10, 0, ([], 1, [])))
        self.assertEqual(by_strides(machine, 1, NOTHING, 0)[0], "on")
        self.assertEqual(by_strides(machine, 1, NOTHING, 1)[0], "never")
        # Signs that stand behind it change nothing.
        self.assertEqual(by_strides(machine, 0, ([(1, 3)], 0, []), 5), ("never", 0, 0, ([(1, 3)], 0, [])))

    def test_numbers_of_thirty_figures(self):
        runs = ([(2, FAR)], 1, [(1, FAR), (2, FAR - 1)])
        machine = [[(), (2, 1, 0), (1, -1, 1)], [(2, 1, 0), (0, 1, 1), (2, -1, 1)]]
        told = by_strides(machine, 0, runs, 1)
        self.assertEqual(told, ("on", FAR + 1, 0, ([(2, 2 * FAR + 1)], 2, [(2, FAR - 2)])))
        told = by_strides(machine, 0, runs, 2)
        self.assertEqual(told, ("on", FAR + 2, 1, ([(2, 2 * FAR)], 2, [(1, 1), (2, FAR - 2)])))
        told = by_strides(machine, 0, runs, 3)
        steps = 3 * FAR + 4
        self.assertEqual(told, ("on", steps - 1, 1, ([], 0, [(2, 2 * FAR + 1), (1, 1), (2, FAR - 2)])))
        told = by_strides(machine, 0, runs, 4)
        self.assertEqual(told, ("on", steps, 0, ([(2, 1)], 2, [(2, 2 * FAR), (1, 1), (2, FAR - 2)])))

    def test_like_neighbours_are_led_together(self):
        machine = [[(1, 1, 1), (1, 1, 1), (1, 1, 1)], [(1, -1, 0), (2, -1, 0), (1, -1, 0)]]
        self.assertEqual(by_strides(machine, 0, ([(1, 4)], 0, [(1, 2)]), 1), ("on", 1, 1, ([(1, 5)], 1, [(1, 1)])))
        self.assertEqual(by_strides(machine, 0, ([(1, 4)], 2, [(2, 2)]), 1), ("on", 1, 1, ([(1, 5)], 2, [(2, 1)])))
        self.assertEqual(by_strides(machine, 1, ([(1, 4)], 2, [(1, 2)]), 1), ("on", 1, 0, ([(1, 3)], 1, [(1, 3)])))

    def test_a_farthest_run_of_noughts_is_left_out(self):
        wiper = [[(), (0, 1, 0), (2, 1, 0)]]
        self.assertEqual(by_strides(wiper, 0, ([], 1, [(1, 6), (2, 1)]), 1), ("on", 7, 0, ([], 2, [])))
        self.assertEqual(by_strides(wiper, 0, ([(2, 1)], 1, [(1, 6)]), 1), ("end", 7, 0, ([(2, 1), (0, 7)], 0, [])))
        self.assertEqual(by_strides(wiper, 0, ([], 1, [(1, 6)]), 1), ("end", 7, 0, ([], 0, [])))

    def test_strides_done_one_step_after_the_other(self):
        words = {}
        for machine in many_machines():
            for runs in some_runs(len(machine[0])):
                for row in range(len(machine)):
                    for many in (0, 1, 2, 3, 7, 12):
                        before = copy.deepcopy(runs)
                        told = by_strides(machine, row, runs, many)
                        self.assertEqual(told, plain_strides(machine, row, before, many))
                        self.assertEqual(runs, before)
                        words[told[0]] = True
        self.assertEqual(sorted(words), ["end", "never", "on"])

    def test_up_to_five_hundred_strides(self):
        for machine in [test_rings.SWEEPER, samples.TO_AND_FRO] + [machine for steps, machine in samples.ENDING]:
            for many in (100, 499, 500):
                self.assertEqual(by_strides(machine, 0, NOTHING, many), plain_strides(machine, 0, NOTHING, many))

    def test_as_a_run_from_the_empty_strip(self):
        for steps, machine in samples.ENDING:
            if steps <= 106:
                trail = samples.plain_walk(machine, 200)[0]
                row, place, strip = trail[-1]
                self.assertEqual(by_strides(machine, 0, NOTHING, 500), ("end", steps, row, plain_runs(strip, place)))

    def test_no_machine(self):
        for machine in samples.no_machines():
            for many in (0, 1, 500):
                with self.assertRaises(NoMachine):
                    by_strides(machine, 0, NOTHING, many)

    def test_what_is_told_is_the_askers_own(self):
        for machine in many_machines():
            for runs in some_runs(len(machine[0])):
                mine = copy.deepcopy((machine, runs))
                told = [by_strides(mine[0], 0, mine[1], many) for many in (0, 4)]
                kept = copy.deepcopy(told)
                self.assertFalse(samples.has_list_twice(told))
                self.assertFalse(samples.share_a_list(told, mine))
                samples.spoil(mine)
                self.assertEqual(told, kept)
                samples.spoil(told)
                self.assertEqual([by_strides(machine, 0, runs, many) for many in (0, 4)], kept)

    def test_what_was_told_may_be_handed_in_again(self):
        for machine in many_machines():
            for runs in some_runs(len(machine[0])):
                word, steps, row, after = by_strides(machine, 0, runs, 3)
                last = by_strides(machine, row, after, 4)
                whole = by_strides(machine, 0, runs, 7)
                self.assertEqual((last[0], steps + last[1]) + last[2:], whole)


if __name__ == "__main__":
    unittest.main()
