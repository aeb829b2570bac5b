"""Points 3 and 21: the census and the greatest."""

import copy
import unittest

import samples
from endnever.census import census, fullest, greatest
from endnever.errors import NoSize
from test_tree import NO_SIZES, SIZES, TOO_GREAT, all_machines, plain_tree


def plain_end(machine):
    """(steps, marks) where a machine ends behind at most 100 steps, else None."""
    strip, row, place = {}, 0, 0
    for steps in range(101):
        entry = machine[row][strip.get(place, 0)]
        if entry == ():
            return steps, sum(1 for sign in strip.values() if sign)
        strip[place] = entry[0]
        place += entry[1]
        row = entry[2]
    return None


class Census(unittest.TestCase):

    def test_written_out(self):
        self.assertEqual(census(1, 2), (25, [(0, 5)], 20))
        self.assertEqual(census(1, 3), (343, [(0, 49)], 294))
        self.assertEqual(census(1, 4), (6561, [(0, 729)], 5832))
        told = (6561, [(0, 729), (1, 324), (2, 72), (3, 26), (4, 4), (5, 10)], 5396)
        self.assertEqual(census(2, 2), told)

    def test_all_machines_counted_one_by_one(self):
        for rows, signs in SIZES:
            counts, never, many = {}, 0, 0
            for machine in all_machines(rows, signs):
                many += 1
                end = plain_end(machine)
                if end is None:
                    never += 1
                else:
                    counts[end[0]] = counts.get(end[0], 0) + 1
            self.assertEqual(census(rows, signs), (many, sorted(counts.items()), never))

    def test_those_that_end_and_those_that_never_do_are_all(self):
        for rows, signs in SIZES:
            many, ends, never = census(rows, signs)
            self.assertEqual(many, (2 * rows * signs + 1) ** (rows * signs))
            self.assertEqual(sum(count for steps, count in ends) + never, many)
            self.assertEqual([steps for steps, count in ends], sorted({steps for steps, count in ends}))
            self.assertTrue(all(count > 0 for steps, count in ends))


class Most(unittest.TestCase):

    def test_of_one_row(self):
        for signs in (2, 3, 4):
            self.assertEqual(greatest(1, signs), (0, [[[()] * signs]]))
            self.assertEqual(fullest(1, signs), (0, [[[()] * signs]]))

    def test_of_two_rows_written_out(self):
        self.assertEqual(greatest(2, 2), (5, [
            [[(0, 1, 1), ()], [(1, -1, 0), (1, 1, 1)]],
            [[(1, 1, 1), ()], [(0, -1, 1), (1, -1, 0)]],
            [[(1, 1, 1), (0, -1, 1)], [(1, -1, 0), ()]],
            [[(1, 1, 1), (1, -1, 1)], [(1, -1, 0), ()]],
            [[(1, 1, 1), ()], [(1, -1, 1), (1, -1, 0)]]]))
        self.assertEqual(fullest(2, 2), (4, [[[(1, 1, 1), (1, -1, 1)], [(1, -1, 0), ()]]]))

    def test_in_the_order_of_the_tree(self):
        for rows, signs in SIZES:
            ended = [machine for machine, steps in plain_tree(rows, signs) if steps is not None]
            for at, told in ((0, greatest(rows, signs)), (1, fullest(rows, signs))):
                most = max(plain_end(machine)[at] for machine in ended)
                self.assertEqual(told, (most, [machine for machine in ended if plain_end(machine)[at] == most]))

    def test_no_machine_of_the_size_does_more(self):
        for rows, signs in SIZES:
            ends = [plain_end(machine) for machine in all_machines(rows, signs)]
            self.assertEqual(greatest(rows, signs)[0], max(end[0] for end in ends if end is not None))
            self.assertEqual(fullest(rows, signs)[0], max(end[1] for end in ends if end is not None))


class Both(unittest.TestCase):

    def test_sizes_that_are_refused(self):
        for ask in (census, greatest, fullest):
            for rows, signs in NO_SIZES + TOO_GREAT:
                with self.assertRaises(NoSize):
                    ask(rows, signs)

    def test_what_is_told_is_the_askers_own(self):
        for ask in (census, greatest, fullest):
            for rows, signs in SIZES:
                told = ask(rows, signs)
                kept = copy.deepcopy(told)
                self.assertIsInstance(told, tuple)
                self.assertFalse(samples.has_list_twice(told))
                samples.spoil(told)
                self.assertEqual(ask(rows, signs), kept)


if __name__ == "__main__":
    unittest.main()
