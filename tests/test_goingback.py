"""Point 12: going back from the ends."""

import itertools
import unittest
from unittest import mock

import samples
from endnever import goingback
from endnever.goingback import no_back, parts_at

# (depth, machine): no part at this depth, parts at each lesser one; and the machine never ends.
DEPTHS = [
    (1, [[(1, 1, 0), (1, 1, 0)]]),
    (1, samples.filled(4, 4, (3, -1, 2))),
    (1, [[(0, -1, 0), (1, 1, 0)], [(), (1, -1, 0)]]),
    (2, [[(1, -1, 0), (0, 1, 1)], [(), (1, -1, 0)]]),
    (3, [[(0, 1, 0), (0, -1, 1)], [(1, 1, 0), ()]]),
    (4, [[(0, -1, 2), (0, 1, 2)], [(0, -1, 0), ()], [(1, -1, 0), (1, 1, 1)]]),
    (5, [[(0, -1, 2), (1, -1, 1)], [(), (0, 1, 0)], [(0, 1, 0), (1, -1, 1)]]),
    (6, [[(0, 1, 2), (0, -1, 0)], [(1, -1, 0), (1, 1, 2)], [(0, -1, 0), (0, -1, 3)], [(), (0, 1, 0)]]),
    (7, [[(1, 1, 2), (0, -1, 3)], [(), (1, 1, 2)], [(1, -1, 0), (1, 1, 0)], [(0, 1, 2), (1, -1, 1)]]),
    (8, [[(0, -1, 1), (), (3, -1, 2), (2, -1, 2)], [(3, -1, 2), (1, 1, 2), (1, 1, 0), (3, 1, 0)],
         [(3, -1, 1), (3, -1, 2), (3, -1, 1), (0, 1, 0)]]),
]

# 4, 16, 48 and 192 parts at the depths 0 to 3, none at 4; it goes to and fro for ever.
MANY_PARTS = [[(0, -1, 1), (3, -1, 1), (2, -1, 1), (1, -1, 1)], [(0, 1, 0), (1, -1, 2), (1, -1, 2), (2, -1, 2)],
              [(1, -1, 3), (2, -1, 3), (3, -1, 3), (3, -1, 3)], [(), (), (), ()]]

# (machine, how many parts it has at the depths from 0 on, the last count above 300).
TOO_MANY = [
    ([[(2, 1, 2), (0, 1, 1), (2, 1, 0), (0, 1, 0)], [(2, 1, 2), (0, 1, 3), (), (2, 1, 0)],
      [(), (0, 1, 1), (0, 1, 2), (0, 1, 0)], [(2, 1, 0), (0, 1, 0), (), (1, 1, 0)]], [3, 6, 24, 88, 300, 1036]),
    ([[(0, 1, 0), (3, -1, 1), (1, 1, 3), (3, 1, 0)], [(0, 1, 0), (0, -1, 0), (3, 1, 3), (2, -1, 0)],
      [(3, -1, 3), (2, 1, 3), (1, -1, 3), (3, -1, 0)], [(1, 1, 0), (2, 1, 0), (), (1, 1, 3)]],
     [1, 6, 10, 33, 101, 301]),
]


def plain_parts(machine, depth):
    """The parts at a depth, each told by its way back: all entries that may be done last, last but one, and so on."""
    rows, signs = len(machine), len(machine[0])
    cells = [(row, sign) for row in range(rows) for sign in range(signs)]
    told = []
    for path in itertools.product(cells, repeat=depth + 1):
        part = part_by(machine, path)
        if part is not None and part not in told:
            told.append(part)
    return sorted(told)


def part_by(machine, path):
    """The part from which just these entries are done, the last of them the empty one, or None."""
    if machine[path[-1][0]][path[-1][1]] != ():
        return None
    strip, first, place = {}, {}, 0
    for at, (row, sign) in enumerate(path):
        if strip.setdefault(place, sign) != sign:
            return None
        first.setdefault(place, sign)
        if at + 1 < len(path):
            entry = machine[row][sign]
            if entry == () or entry[2] != path[at + 1][0]:
                return None
            strip[place] = entry[0]
            place += entry[1]
    return (path[0][0], sorted(first.items()))


def ends_behind(machine, row, strip):
    """Behind how many steps a machine ends that begins in a row at place 0 of a strip, None beyond nine."""
    strip, place = dict(strip), 0
    for steps in range(10):
        entry = machine[row][strip.get(place, 0)]
        if entry == ():
            return steps
        strip[place] = entry[0]
        place += entry[1]
        row = entry[2]
    return None


def tells_of(part, row, strip):
    """Whether a part tells of a setup that has this row and strip, its place being 0."""
    return part[0] == row and all(strip[place] == sign for place, sign in part[1])


class Parts(unittest.TestCase):

    def test_without_an_empty_entry(self):
        for rows, signs in samples.sizes():
            for depth in range(5):
                self.assertEqual(parts_at(samples.filled(rows, signs, (1, 1, 0)), depth), [])

    def test_the_ends_alone(self):
        for rows, signs in samples.sizes():
            told = [(row, [(0, sign)]) for row in range(rows) for sign in range(signs)]
            self.assertEqual(parts_at(samples.filled(rows, signs), 0), told)
            for depth in range(1, 5):
                self.assertEqual(parts_at(samples.filled(rows, signs), depth), [])

    def test_with_one_empty_entry(self):
        for depth in range(5):
            told = [(0, [(place, 0) for place in range(depth)] + [(depth, 1)])]
            self.assertEqual(parts_at(samples.RIGHT_FOR_EVER, depth), told)
            told = [(0, [(-depth, 1)] + [(place, 0) for place in range(1 - depth, 1)])]
            self.assertEqual(parts_at(samples.LEFT_FOR_EVER, depth), told)

    def test_with_one_empty_entry_and_turns(self):
        machine = [[(1, 1, 1), (1, -1, 1)], [(1, -1, 0), ()]]
        self.assertEqual(parts_at(machine, 0), [(1, [(0, 1)])])
        self.assertEqual(parts_at(machine, 1), [(0, [(-1, 1), (0, 1)]), (0, [(0, 0), (1, 1)])])
        # Only row 1 with a 0 leads to row 0, and it puts a 1 at the place to the right of where it goes.
        self.assertEqual(parts_at(machine, 2), [(1, [(-2, 1), (-1, 1), (0, 0)]), (1, [(-1, 0), (0, 0)])])
        # Row 0 with a 0 goes to the right and would leave a 1 behind: no second part at 2 lets it.
        self.assertEqual(parts_at(machine, 3), [
            (0, [(-3, 1), (-2, 1), (-1, 0), (0, 1)]), (0, [(-2, 0), (-1, 0), (0, 1)]), (0, [(-1, 1), (0, 0), (1, 0)])])
        self.assertEqual(parts_at(machine, 4), [
            (1, [(-4, 1), (-3, 1), (-2, 0), (-1, 1), (0, 0)]), (1, [(-3, 0), (-2, 0), (-1, 1), (0, 0)])])

    def test_with_several_empty_entries(self):
        machine = [[(1, 1, 1), (0, 1, 1)], [(), ()]]
        self.assertEqual(parts_at(machine, 0), [(1, [(0, 0)]), (1, [(0, 1)])])
        told = [(0, [(0, 0), (1, 0)]), (0, [(0, 0), (1, 1)]), (0, [(0, 1), (1, 0)]), (0, [(0, 1), (1, 1)])]
        self.assertEqual(parts_at(machine, 1), told)
        self.assertEqual(parts_at(machine, 2), [])

    def test_all_ways_back_gone_through(self):
        for rows, signs, deepest in ((1, 2, 4), (1, 3, 4), (2, 2, 4), (1, 4, 4), (2, 3, 3), (3, 2, 3), (4, 2, 3),
                                     (3, 3, 2), (4, 4, 2)):
            for machine in samples.mixed(rows, signs, 30):
                for depth in range(deepest + 1):
                    told = parts_at(machine, depth)
                    self.assertEqual(told, plain_parts(machine, depth))
                    self.assertEqual(len(told), len({(row, tuple(signs)) for row, signs in told}))

    def test_a_part_tells_just_of_what_ends_behind_so_many_steps(self):
        for rows in (1, 2, 3, 4):
            for machine in samples.mixed(rows, 2, 20):
                for depth in range(4):
                    parts = parts_at(machine, depth)
                    places = range(-depth, depth + 1)
                    for row in range(rows):
                        for signs in itertools.product((0, 1), repeat=len(places)):
                            strip = dict(zip(places, signs))
                            told = any(tells_of(part, row, strip) for part in parts)
                            self.assertEqual(told, ends_behind(machine, row, strip) == depth)


class NoBack(unittest.TestCase):

    def test_the_least_depth_and_one_too_few(self):
        for depth, machine in DEPTHS:
            for most in range(1, 9):
                self.assertEqual(no_back(machine, most), ("back", depth) if most >= depth else None)

    def test_each_depth_has_its_machine(self):
        self.assertEqual(sorted({depth for depth, _ in DEPTHS}), list(range(1, 9)))
        for depth, machine in DEPTHS:
            for lesser in range(min(depth, 4)):
                parts = parts_at(machine, lesser)
                self.assertTrue(parts or depth == 1)

    def test_none_where_there_are_always_parts(self):
        for machine in (samples.RIGHT_FOR_EVER, samples.LEFT_FOR_EVER, [[(1, 1, 0), ()], [(), ()]]):
            for most in range(1, 9):
                self.assertIsNone(no_back(machine, most))

    def test_none_where_the_machine_ends(self):
        for _, machine in samples.ENDING:
            for most in range(1, 9):
                self.assertIsNone(no_back(machine, most))

    def test_none_where_it_ends_and_no_part_is_left(self):
        for steps, machine in ((0, [[(), ()]]), (0, [[(), (1, 1, 1)], [(1, 1, 1), (1, 1, 1)]]),
                               (1, [[(1, 1, 1), (1, 1, 1)], [(), ()]]),
                               (2, [[(1, 1, 1), (1, 1, 1)], [(1, 1, 2), (1, 1, 2)], [(), ()]]),
                               (3, [[(1, 1, 1), (1, 1, 1)], [(1, 1, 2), (1, 1, 2)], [(1, 1, 3), (1, 1, 3)], [(), ()]])):
            self.assertEqual(ends_behind(machine, 0, {}), steps)
            self.assertNotEqual(parts_at(machine, steps), [])
            self.assertEqual(parts_at(machine, steps + 1), [])
            for most in range(1, 9):
                self.assertIsNone(no_back(machine, most))

    def test_once_a_depth_has_more_than_300_parts_no_greater_one_is_looked_at(self):
        for machine, counts in TOO_MANY:
            self.assertEqual([len(parts_at(machine, depth)) for depth in range(5)], counts[:5])
            for most in range(1, 9):
                with mock.patch.object(goingback, "parts_ahead", wraps=goingback.parts_ahead) as looked:
                    self.assertIsNone(no_back(machine, most))
                asked = [len(call.args[1]) for call in looked.call_args_list]
                self.assertEqual(asked, [count for count in counts if count <= 300][:most])

    def test_a_depth_with_too_many_parts_ahead_of_one_with_none(self):
        for most in range(1, 9):
            self.assertEqual(no_back(MANY_PARTS, most), ("back", 4) if most >= 4 else None)
        self.assertEqual([len(parts_at(MANY_PARTS, depth)) for depth in range(5)], [4, 16, 48, 192, 0])
        self.assertEqual(goingback.MOST_PARTS, 300)
        for bound, paper in ((192, ("back", 4)), (191, None), (48, None)):
            with mock.patch.object(goingback, "MOST_PARTS", bound):
                self.assertEqual(no_back(MANY_PARTS, 8), paper)

    def test_as_the_ways_back_tell(self):
        found = 0
        for rows, signs in ((1, 2), (1, 3), (2, 2), (1, 4), (3, 2), (2, 3)):
            for machine in samples.mixed(rows, signs, 60):
                empty = [depth for depth in range(1, 4) if not plain_parts(machine, depth)]
                ended = samples.plain_walk(machine, 3)[1]
                paper = ("back", empty[0]) if empty and not ended else None
                found += paper is not None
                self.assertEqual(no_back(machine, 3), paper)
        self.assertGreater(found, 10)


if __name__ == "__main__":
    unittest.main()
