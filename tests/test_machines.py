"""Points 4 and 5: what a machine is, and one step."""

import copy
import unittest

import samples
from endnever.errors import NoMachine
from endnever.machines import must_machine, stepped
from endnever.runs import run, setups, touched

FAR = 10 ** 30 - 1
PLACES = [0, 1, -1, 2, -2, 1000, -1000, FAR, -FAR]


class Machines(unittest.TestCase):

    def test_each_size_is_let_by(self):
        for rows, signs in samples.sizes():
            for machine in [samples.filled(rows, signs)] + samples.mixed(rows, signs, 30):
                self.assertIsNone(must_machine(machine))

    def test_each_entry_of_each_size_is_let_by_at_each_place(self):
        for rows, signs in samples.sizes():
            for entry in samples.entries_of(rows, signs):
                self.assertIsNone(must_machine(samples.filled(rows, signs, entry)))
                for row in range(rows):
                    for sign in range(signs):
                        machine = samples.changed(samples.filled(rows, signs), row, sign, entry)
                        self.assertIsNone(must_machine(machine))

    def test_what_is_no_machine_is_refused_by_everything(self):
        for machine in samples.no_machines():
            before = copy.deepcopy(machine)
            for ask in (lambda: must_machine(machine), lambda: stepped(machine, (0, 0, [])),
                        lambda: run(machine, 0), lambda: run(machine, 10), lambda: setups(machine, 0),
                        lambda: setups(machine, 10), lambda: touched(machine, 0), lambda: touched(machine, 10)):
                with self.assertRaises(NoMachine, msg=str(machine)):
                    ask()
            self.assertEqual(machine, before)

    def test_a_wrong_entry_is_refused_at_each_place(self):
        for rows, signs in samples.sizes():
            for row in range(rows):
                for sign in range(signs):
                    for entry in ((0, 0, 0), (signs, 1, 0), (0, 1, rows), (0, 1), (-1, 1, 0), (0, 1, -1)):
                        with self.assertRaises(NoMachine):
                            must_machine(samples.changed(samples.filled(rows, signs), row, sign, entry))

    def test_no_machine_goes_ahead_of_a_setup_that_does_not_fit(self):
        for setup in ((9, 0, []), (0, 0, [(0, 9)])):
            with self.assertRaises(NoMachine):
                stepped([[(2, 1, 0), ()]], setup)

    def test_the_machine_stays_as_it_was(self):
        for rows, signs in samples.sizes():
            for machine in samples.mixed(rows, signs, 5):
                before = copy.deepcopy(machine)
                must_machine(machine)
                stepped(machine, (rows - 1, 3, [(3, 1)]))
                run(machine, 20)
                setups(machine, 20)
                touched(machine, 20)
                self.assertEqual(machine, before)


class Steps(unittest.TestCase):

    def test_a_sign_is_put_where_there_was_none(self):
        for place in PLACES:
            for way in (-1, 1):
                machine = [[(2, way, 1), (), ()], [(), (), ()]]
                self.assertEqual(stepped(machine, (0, place, [])), (1, place + way, [(place, 2)]))
                strip = [(place - 5, 1), (place - 1, 2), (place + 1, 1), (place + 4, 2)]
                told = [(place - 5, 1), (place - 1, 2), (place, 2), (place + 1, 1), (place + 4, 2)]
                self.assertEqual(stepped(machine, (0, place, strip)), (1, place + way, told))

    def test_a_sign_is_exchanged(self):
        for place in PLACES:
            for way in (-1, 1):
                machine = [[(), (), ()], [(), (2, way, 0), (2, way, 1)]]
                for sign, row in ((1, 0), (2, 1)):
                    strip = [(place - 1, 1), (place, sign), (place + 1, 1)]
                    told = [(place - 1, 1), (place, 2), (place + 1, 1)]
                    self.assertEqual(stepped(machine, (1, place, strip)), (row, place + way, told))

    def test_a_place_with_a_nought_is_told_no_more(self):
        for place in PLACES:
            for way in (-1, 1):
                machine = [[(0, way, 0), (0, way, 0)]]
                self.assertEqual(stepped(machine, (0, place, [(place, 1)])), (0, place + way, []))
                strip = [(place - 2, 1), (place, 1), (place + 2, 1)]
                told = [(place - 2, 1), (place + 2, 1)]
                self.assertEqual(stepped(machine, (0, place, strip)), (0, place + way, told))
                self.assertEqual(stepped(machine, (0, place, told)), (0, place + way, told))

    def test_none_is_told_at_an_empty_entry(self):
        for place in PLACES:
            self.assertIsNone(stepped(samples.EMPTY, (0, place, [])))
            self.assertIsNone(stepped(samples.EMPTY, (0, place, [(place, 1)])))
            machine = [[(1, 1, 1), (1, 1, 1)], [(1, 1, 0), ()]]
            self.assertIsNone(stepped(machine, (1, place, [(place - 1, 1), (place, 1)])))
            self.assertIsNotNone(stepped(machine, (1, place, [(place - 1, 1)])))
            self.assertIsNotNone(stepped(machine, (0, place, [(place, 1)])))

    def test_each_entry_of_each_size_is_done(self):
        for rows, signs in samples.sizes():
            for entry in samples.entries_of(rows, signs)[1:]:
                for row in range(rows):
                    for sign in range(signs):
                        machine = samples.changed(samples.filled(rows, signs), row, sign, entry)
                        strip = [(7, sign)] if sign else []
                        told = [(7, entry[0])] if entry[0] else []
                        self.assertEqual(stepped(machine, (row, 7, strip)), (entry[2], 7 + entry[1], told))

    def test_a_strip_of_forty_tuples(self):
        machine = [[(3, 1, 0), (0, -1, 0), (1, 1, 0), ()]]
        strip = [(3 * at - FAR, 1 + at % 2) for at in range(40)]
        for at, (place, sign) in enumerate(strip):
            rest = strip[:at] + strip[at + 1:]
            told = (0, place - 1, rest) if sign == 1 else (0, place + 1, strip[:at] + [(place, 1)] + strip[at + 1:])
            self.assertEqual(stepped(machine, (0, place, strip)), told)
            more = strip[:at + 1] + [(place + 1, 3)] + strip[at + 1:]
            self.assertEqual(stepped(machine, (0, place + 1, strip)), (0, place + 2, more))

    def test_from_setup_to_setup_as_the_plain_walk_goes(self):
        for rows, signs in samples.sizes():
            for machine in samples.mixed(rows, signs, 20):
                told, ended = samples.plain_walk(machine, 30)
                for one, following in zip(told, told[1:]):
                    self.assertEqual(stepped(machine, one), following)
                if ended:
                    self.assertIsNone(stepped(machine, told[-1]))


class OneStepIsTheAskersOwn(unittest.TestCase):

    def asked(self):
        """(machine, setup) for each kind of step: one more sign, another, the same, one fewer, none at all."""
        machine = [[(1, 1, 0), (1, -1, 0), (1, 1, 0), (0, 1, 0)], [(0, 1, 0), (), (), ()]]
        return [(machine, (row, 4, [(2, 1)] + marks + [(6, 2)]))
                for row in (0, 1) for marks in ([], [(4, 1)], [(4, 2)], [(4, 3)])]

    def test_what_is_handed_in_stays_as_it_was(self):
        for machine, setup in self.asked():
            before = copy.deepcopy((machine, setup))
            stepped(machine, setup)
            self.assertEqual((machine, setup), before)

    def test_what_is_told_shares_no_list(self):
        for machine, setup in self.asked():
            told = stepped(machine, setup)
            self.assertFalse(samples.has_list_twice(told))
            self.assertFalse(samples.share_a_list(told, (machine, setup)))
            self.assertFalse(samples.share_a_list(told, stepped(machine, setup)))

    def test_the_same_is_told_again_whatever_became_of_the_first(self):
        for machine, setup in self.asked():
            told = stepped(machine, setup)
            kept = copy.deepcopy(told)
            samples.spoil(told)
            self.assertEqual(stepped(machine, setup), kept)

    def test_what_was_told_stays_when_what_was_handed_in_is_changed(self):
        for machine, setup in self.asked():
            mine = copy.deepcopy(machine)
            told = stepped(mine, setup)
            kept = copy.deepcopy(told)
            samples.spoil((mine, setup))
            self.assertEqual(told, kept)

    def test_what_was_told_may_be_handed_in_again(self):
        setup = (0, 0, [])
        for steps in range(1, 50):
            setup = stepped(samples.RIGHT_FOR_EVER, setup)
            self.assertEqual(setup, (0, steps, [(place, 1) for place in range(steps)]))


if __name__ == "__main__":
    unittest.main()
