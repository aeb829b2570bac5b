"""Points 30 and 31: what a run meets, and where two machines part."""

import unittest

import samples
from endnever.errors import NoMachine
from endnever.meets import met_entries, parts_from, records, visits
from endnever.runs import touched

TWO_ROWS = [[(1, 1, 1), (1, -1, 1)], [(1, -1, 0), ()]]
TO_BOTH_SIDES = [[(1, 1, 1), (1, -1, 0)], [(1, -1, 0), (1, 1, 1)]]


def many_machines():
    told = [machine for _, machine in samples.ENDING[:8]] + samples.NEVER + [TO_BOTH_SIDES]
    for rows, signs in samples.sizes():
        told += samples.mixed(rows, signs, 15)
    return told


def plain_looks(machine, most):
    """(row, place, sign) of each moment, by the plain walk."""
    trail = samples.plain_walk(machine, most)[0]
    return [(row, place, dict(strip).get(place, 0)) for row, place, strip in trail]


def plain_parting(one, other, most):
    """The moment at which two plain walks aren't the same any more, or None."""
    first, second = samples.plain_walk(one, most)[0], samples.plain_walk(other, most)[0]
    for moment in range(most + 1):
        if first[moment:moment + 1] != second[moment:moment + 1]:
            return moment
    return None


class Met(unittest.TestCase):

    def test_written_out(self):
        self.assertEqual(met_entries(samples.EMPTY, 0), [(0, 0)])
        self.assertEqual(met_entries(samples.EMPTY, 1000), [(0, 0)])
        self.assertEqual(met_entries(samples.RIGHT_FOR_EVER, 0), [(0, 0)])
        self.assertEqual(met_entries(samples.RIGHT_FOR_EVER, 1000), [(0, 0)])
        self.assertEqual(met_entries(samples.TO_AND_FRO, 0), [(0, 0)])
        self.assertEqual(met_entries(samples.TO_AND_FRO, 1), [(0, 0), (1, 0)])
        self.assertEqual(met_entries(samples.TO_AND_FRO, 1000), [(0, 0), (1, 0)])

    def test_the_empty_entry_is_met_too(self):
        self.assertEqual(met_entries(samples.WIPER, 2), [(0, 0), (1, 0), (0, 1)])
        for most in (3, 4, 1000):
            self.assertEqual(met_entries(samples.WIPER, most), [(0, 0), (1, 0), (0, 1), (2, 0)])
        self.assertEqual(met_entries(TWO_ROWS, 4), [(0, 0), (1, 0), (0, 1)])
        self.assertEqual(met_entries(TWO_ROWS, 5), [(0, 0), (1, 0), (0, 1), (1, 1)])

    def test_in_the_order_in_which_they_are_first_looked_up(self):
        for machine in many_machines():
            for most in (0, 1, 2, 3, 7, 30, 100):
                told = []
                for row, _, sign in plain_looks(machine, most):
                    if (row, sign) not in told:
                        told.append((row, sign))
                self.assertEqual(met_entries(machine, most), told)


class Visits(unittest.TestCase):

    def test_written_out(self):
        self.assertEqual(visits(samples.EMPTY, 0), [(0, 1)])
        self.assertEqual(visits(samples.EMPTY, 1000), [(0, 1)])
        self.assertEqual(visits(samples.RIGHT_FOR_EVER, 0), [(0, 1)])
        self.assertEqual(visits(samples.RIGHT_FOR_EVER, 1000), [(place, 1) for place in range(1001)])
        self.assertEqual(visits(samples.LEFT_FOR_EVER, 1000), [(place, 1) for place in range(-1000, 1)])
        self.assertEqual(visits(samples.TO_AND_FRO, 1), [(0, 1), (1, 1)])
        self.assertEqual(visits(samples.TO_AND_FRO, 1000), [(0, 501), (1, 500)])

    def test_the_place_of_the_end_is_counted_too(self):
        self.assertEqual(visits(samples.WIPER, 2), [(0, 2), (1, 1)])
        for most in (3, 4, 1000):
            self.assertEqual(visits(samples.WIPER, most), [(-1, 1), (0, 2), (1, 1)])

    def test_as_the_plain_walk_goes(self):
        for machine in many_machines():
            for most in (0, 1, 2, 3, 7, 30, 100):
                places = [place for _, place, _ in plain_looks(machine, most)]
                told = [(place, places.count(place)) for place in sorted(set(places))]
                self.assertEqual(visits(machine, most), told)


class Records(unittest.TestCase):

    def test_written_out(self):
        self.assertEqual(records(samples.EMPTY, 0), [(0, 0)])
        self.assertEqual(records(samples.EMPTY, 1000), [(0, 0)])
        self.assertEqual(records(samples.RIGHT_FOR_EVER, 0), [(0, 0)])
        self.assertEqual(records(samples.RIGHT_FOR_EVER, 1000), [(moment, moment) for moment in range(1001)])
        self.assertEqual(records(samples.LEFT_FOR_EVER, 1000), [(moment, -moment) for moment in range(1001)])
        self.assertEqual(records(samples.TO_AND_FRO, 1000), [(0, 0), (1, 1)])
        self.assertEqual(records(TO_BOTH_SIDES, 12), [(0, 0), (1, 1), (3, -1), (6, 2), (10, -2)])

    def test_the_place_of_the_end_is_a_record_too(self):
        self.assertEqual(records(samples.WIPER, 2), [(0, 0), (1, 1)])
        for most in (3, 4, 1000):
            self.assertEqual(records(samples.WIPER, most), [(0, 0), (1, 1), (3, -1)])

    def test_as_the_plain_walk_goes(self):
        for machine in many_machines():
            for most in (0, 1, 2, 3, 7, 30, 100):
                places = [place for _, place, _ in plain_looks(machine, most)]
                told = [(at, place) for at, place in enumerate(places) if place not in places[:at]]
                self.assertEqual(records(machine, most), told)

    def test_as_far_as_the_stretch(self):
        for machine in many_machines():
            told = [place for _, place in records(machine, 1000)]
            self.assertEqual((min(told), max(told)), touched(machine, 1000))


class LongRuns(unittest.TestCase):

    def test_machines_that_end_behind_about_a_thousand_steps(self):
        for steps, machine in samples.ENDING[8:]:
            for most in (steps - 1, steps, 1000):
                looks = plain_looks(machine, most)
                self.assertEqual(sum(count for _, count in visits(machine, most)), len(looks))
                self.assertEqual(sorted(met_entries(machine, most)), sorted({(row, sign) for row, _, sign in looks}))


class Parting(unittest.TestCase):

    def test_at_once(self):
        for other in ([[(0, 1, 0), ()]], [[(1, -1, 0), ()]], samples.EMPTY, [[(1, 1, 1), ()], [(), ()]]):
            for one, two in ((samples.RIGHT_FOR_EVER, other), (other, samples.RIGHT_FOR_EVER)):
                self.assertIsNone(parts_from(one, two, 0))
                for most in (1, 2, 1000):
                    self.assertEqual(parts_from(one, two, most), 1)

    def test_later(self):
        # The same until row 1 reads a 1, behind five steps: there the one ends, the others go on.
        for entry in ((0, 1, 0), (1, 1, 0), (1, -1, 1)):
            other = samples.changed(TWO_ROWS, 1, 1, entry)
            for most in (0, 1, 4, 5):
                self.assertIsNone(parts_from(TWO_ROWS, other, most))
                self.assertIsNone(parts_from(other, TWO_ROWS, most))
            for most in (6, 7, 1000):
                self.assertEqual(parts_from(TWO_ROWS, other, most), 6)
                self.assertEqual(parts_from(other, TWO_ROWS, most), 6)
        self.assertEqual(parts_from(samples.changed(TWO_ROWS, 1, 1, (0, 1, 0)),
                                    samples.changed(TWO_ROWS, 1, 1, (1, 1, 0)), 1000), 6)

    def test_never(self):
        for machine in samples.NEVER + [TO_BOTH_SIDES]:
            self.assertIsNone(parts_from(machine, machine, 1000))
        other = samples.changed(samples.RIGHT_FOR_EVER, 0, 1, (0, -1, 0))
        self.assertIsNone(parts_from(samples.RIGHT_FOR_EVER, other, 1000))

    def test_machines_that_end_alike(self):
        for steps, machine in samples.ENDING:
            if steps <= 1000:
                self.assertIsNone(parts_from(machine, [list(row) for row in machine], 1000))
        one, other = [[(1, 1, 1), ()], [(), ()]], [[(1, 1, 1), (1, 1, 1)], [(), (0, 1, 0)]]
        self.assertIsNone(parts_from(one, other, 1000))

    def test_of_unlike_sizes(self):
        wider = [[(1, 1, 0), (), (), ()], [(), (), (), ()]]
        self.assertIsNone(parts_from(samples.RIGHT_FOR_EVER, wider, 1000))
        self.assertIsNone(parts_from(wider, samples.RIGHT_FOR_EVER, 1000))
        wider[0][0] = (3, 1, 0)
        self.assertEqual(parts_from(samples.RIGHT_FOR_EVER, wider, 1000), 1)
        taller = [[(0, 1, 1), ()], [(0, -1, 2), ()], [(1, 1, 2), ()]]
        self.assertEqual(parts_from(samples.TO_AND_FRO, taller, 1000), 2)
        self.assertEqual(parts_from(taller, samples.TO_AND_FRO, 1000), 2)

    def test_at_the_end_of_one_of_them_a_thousand_steps_on(self):
        for steps, machine in samples.ENDING[8:]:
            row, place, strip = samples.plain_walk(machine, steps)[0][-1]
            other = samples.changed(machine, row, dict(strip).get(place, 0), (1, 1, 0))
            self.assertIsNone(parts_from(machine, other, steps))
            self.assertEqual(parts_from(machine, other, steps + 1), steps + 1)
            self.assertEqual(parts_from(other, machine, steps + 1), steps + 1)

    def test_as_the_plain_walks_go(self):
        told = []
        for rows, signs in samples.sizes():
            machines = samples.mixed(rows, signs, 6) + samples.mixed(1, 2, 2) + samples.mixed(4, 4, 2)
            for one in machines[:6]:
                machines += [samples.changed(one, row, sign, (0, 1, 0)) for row in range(rows) for sign in range(signs)]
            for at, one in enumerate(machines[:6]):
                for other in machines:
                    for most in (0, 1, 2, 5, 20):
                        told.append(parts_from(one, other, most))
                        self.assertEqual(told[-1], plain_parting(one, other, most))
        self.assertGreater(len(set(told)), 6)

    def test_no_machine_goes_first_and_the_first_one_first(self):
        good = samples.EMPTY
        for bad in samples.no_machines():
            for one, other in ((bad, good), (good, bad), (bad, bad)):
                for most in (0, 5):
                    with self.assertRaises(NoMachine):
                        parts_from(one, other, most)


if __name__ == "__main__":
    unittest.main()
