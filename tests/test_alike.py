"""Points 3 and 17: like machines, their least form, and groups of them."""

import copy
import itertools
import unittest

import samples
from endnever.alike import are_alike, groups, least_form
from endnever.errors import NoMachine
from endnever.runs import run


def all_like(machine):
    """All machines that are like one, made by all orders of its rows and signs, both ways."""
    rows, signs = len(machine), len(machine[0])
    told = []
    for new_rows in itertools.permutations(range(1, rows)):
        for new_signs in itertools.permutations(range(1, signs)):
            for turn in (1, -1):
                row_of, sign_of = (0,) + new_rows, (0,) + new_signs
                other = [[None] * signs for _ in range(rows)]
                for row, sign in itertools.product(range(rows), range(signs)):
                    entry = machine[row][sign]
                    if entry:
                        entry = (sign_of[entry[0]], turn * entry[1], row_of[entry[2]])
                    other[row_of[row]][sign_of[sign]] = entry
                told.append(other)
    return told


def many_machines():
    told = [machine for _, machine in samples.ENDING] + samples.NEVER
    for rows, signs in samples.sizes():
        told += [samples.filled(rows, signs), samples.filled(rows, signs, (1, 1, 0))]
        told += samples.mixed(rows, signs, 8)
    return told


class LeastForms(unittest.TestCase):

    def test_written_out(self):
        for machine, form in [
                ([[(), ()]], [[(), ()]]),
                ([[(1, 1, 0), ()]], [[(1, -1, 0), ()]]),
                ([[(1, -1, 0), ()]], [[(1, -1, 0), ()]]),
                ([[(0, 1, 0), (1, -1, 0)]], [[(0, -1, 0), (1, 1, 0)]]),
                # The signs 1 and 2 exchanged, and turned about.
                ([[(2, 1, 0), (), (1, 1, 0)]], [[(1, -1, 0), (2, -1, 0), ()]]),
                # The rows 1 and 2 exchanged, and turned about.
                ([[(0, 1, 2), ()], [(), (1, 1, 1)], [(), ()]], [[(0, -1, 1), ()], [(), ()], [(), (1, -1, 2)]])]:
            self.assertEqual(least_form(machine), form)

    def test_row_0_and_sign_0_keep_their_names(self):
        self.assertEqual(least_form([[(1, -1, 1), (1, -1, 1)], [(), ()]]), [[(1, -1, 1), (1, -1, 1)], [(), ()]])
        self.assertEqual(least_form([[(1, -1, 0), ()]]), [[(1, -1, 0), ()]])

    def test_the_first_of_all_that_are_like_it(self):
        for machine in many_machines():
            self.assertEqual(least_form(machine), min(all_like(machine)))

    def test_the_same_of_each_that_is_like_it(self):
        for machine in many_machines()[::3]:
            form = least_form(machine)
            self.assertEqual(least_form(form), form)
            for other in all_like(machine)[::5]:
                self.assertEqual(least_form(other), form)

    def test_like_machines_have_the_same_steps(self):
        for machine in many_machines():
            word, steps, (_, _, strip) = run(machine, 1000)
            form_word, form_steps, (_, _, form_strip) = run(least_form(machine), 1000)
            self.assertEqual((word, steps, len(strip)), (form_word, form_steps, len(form_strip)))

    def test_the_told_rows_are_the_askers_own(self):
        for machine in many_machines():
            told = least_form(machine)
            self.assertFalse(samples.has_list_twice(told))
            self.assertFalse(samples.share_a_list(told, machine))


class Alike(unittest.TestCase):

    def test_each_machine_and_all_that_are_like_it(self):
        for machine in many_machines()[::4]:
            for other in all_like(machine)[::5]:
                self.assertIs(are_alike(machine, other), True)
                self.assertIs(are_alike(other, machine), True)

    def test_machines_that_are_not_like(self):
        for one, other in [
                (samples.RIGHT_FOR_EVER, [[(0, 1, 0), ()]]), (samples.RIGHT_FOR_EVER, samples.EMPTY),
                ([[(1, 1, 0), ()]], [[(1, 1, 0), (1, 1, 0)]]),
                # All ways are turned about, or none.
                ([[(1, 1, 0), (1, 1, 0)]], [[(1, 1, 0), (1, -1, 0)]]),
                # Row 0 and sign 0 are named as they are.
                ([[(1, 1, 1), ()], [(), ()]], [[(), ()], [(1, 1, 0), ()]]),
                ([[(1, 1, 0), ()]], [[(), (0, 1, 0)]])]:
            self.assertIs(are_alike(one, other), False)
            self.assertIs(are_alike(other, one), False)

    def test_as_all_that_are_like_tell(self):
        told = []
        for rows, signs in samples.sizes():
            machines = [samples.changed(samples.filled(rows, signs), row, sign, (put, way, goal))
                        for row, sign, put, way, goal in ((0, 0, 1, 1, 0), (0, 0, 0, -1, 0), (0, 1, 1, 1, 0),
                                                          (rows - 1, 1, 1, -1, rows - 1), (0, signs - 1, 1, 1, 0),
                                                          (rows - 1, signs - 1, signs - 1, 1, 0))]
            for one, other in itertools.product(machines, repeat=2):
                told.append(are_alike(one, other))
                self.assertIs(told[-1], other in all_like(one))
        self.assertIn(True, told)
        self.assertIn(False, told)

    def test_machines_of_unlike_sizes(self):
        for one, other in itertools.combinations(samples.sizes(), 2):
            for entry in ((), (1, 1, 0)):
                self.assertIs(are_alike(samples.filled(*one, entry), samples.filled(*other, entry)), False)

    def test_no_machine_of_either(self):
        good = samples.EMPTY
        for bad in samples.no_machines():
            for one, other in ((bad, good), (good, bad), (bad, bad)):
                with self.assertRaises(NoMachine):
                    are_alike(one, other)


class Groups(unittest.TestCase):

    def test_of_none_and_of_one(self):
        self.assertEqual(groups([]), [])
        for machine in many_machines():
            self.assertEqual(groups([machine]), [[0]])

    def test_the_same_machine_twice(self):
        for machine in many_machines()[::5]:
            self.assertEqual(groups([machine, machine]), [[0, 1]])
            self.assertEqual(groups([machine, samples.filled(3, 2, (0, 1, 0)), copy.deepcopy(machine)]), [[0, 2], [1]])

    def test_written_out(self):
        right, left, over = samples.RIGHT_FOR_EVER, samples.LEFT_FOR_EVER, [[(0, 1, 0), ()]]
        self.assertEqual(groups([right, left]), [[0, 1]])
        self.assertEqual(groups([right, over, left]), [[0, 2], [1]])
        self.assertEqual(groups([over, right, over, left, samples.EMPTY, right]), [[0, 2], [1, 3, 5], [4]])
        self.assertEqual(groups([samples.filled(*size) for size in samples.sizes()]), [[at] for at in range(12)])

    def test_up_to_twenty_as_all_that_are_like_tell(self):
        for many in (2, 5, 12, 19, 20):
            for rows, signs in samples.sizes():
                machines = []
                for at, machine in enumerate(samples.mixed(rows, signs, many)):
                    other = all_like(machines[at // 3])[-1 - at % 2] if at % 3 == 2 else machine
                    machines.append(other)
                told = []
                for at, machine in enumerate(machines):
                    like = all_like(machine)
                    places = [place for place, other in enumerate(machines) if other in like]
                    if places[0] == at:
                        told.append(places)
                self.assertEqual(groups(machines), told)

    def test_no_machine_of_any_of_them(self):
        for bad in samples.no_machines():
            for at in range(3):
                machines = [samples.EMPTY, samples.RIGHT_FOR_EVER]
                machines.insert(at, bad)
                with self.assertRaises(NoMachine):
                    groups(machines)

    def test_what_is_handed_in_stays_and_what_is_told_is_the_askers_own(self):
        machines = [samples.EMPTY, samples.RIGHT_FOR_EVER, samples.EMPTY, samples.LEFT_FOR_EVER]
        before = copy.deepcopy(machines)
        told = groups(machines)
        self.assertEqual(machines, before)
        self.assertFalse(samples.has_list_twice(told))
        samples.spoil(told)
        self.assertEqual(groups(machines), [[0, 2], [1, 3]])


if __name__ == "__main__":
    unittest.main()
