"""Points 3, 19 and 20: the tree of a size, and the node of each machine."""

import copy
import itertools
import unittest

import samples
from endnever.errors import NoMachine, NoSize
from endnever.lookers import shows
from endnever.sorting import sorted_as
from endnever.tree import node_of, tree

SIZES = [(1, 2), (1, 3), (1, 4), (2, 2)]
NO_SIZES = [(0, 0), (0, 2), (0, 3), (0, 4), (1, 0), (2, 0), (1, 1), (2, 1), (3, 1), (4, 1), (0, 1), (1, 5), (1, 6),
            (5, 1), (5, 2), (5, 4), (5, 5), (2, 5), (4, 5), (-1, 2), (1, -2), (-1, -2), (-2, -2), (-1, -4), (2, -2),
            (10 ** 30, 2), (1, 10 ** 30)]
TOO_GREAT = [(rows, signs) for rows, signs in samples.sizes() if rows * signs > 4]

# The first nodes of two rows and two signs, up to the third child of the first node.
FIRST_NODES = [
    ([[(), ()], [(), ()]], ("ends", 0)),
    ([[(0, 1, 0), ()], [(), ()]], ("drift", 0, 1)),
    ([[(0, 1, 1), ()], [(), ()]], ("ends", 1)),
    ([[(0, 1, 1), ()], [(0, -1, 0), ()]], ("ring", 0, 2)),
    ([[(0, 1, 1), ()], [(0, -1, 1), ()]], ("drift", 1, 2)),
    ([[(0, 1, 1), ()], [(0, 1, 0), ()]], ("drift", 0, 2)),
    ([[(0, 1, 1), ()], [(0, 1, 1), ()]], ("drift", 1, 2)),
    ([[(0, 1, 1), ()], [(1, -1, 0), ()]], ("ends", 3)),
    ([[(0, 1, 1), ()], [(1, -1, 0), (0, -1, 0)]], ("ring", 0, 4)),
]


def machine_of(table, rows, signs):
    return [[table.get((row, sign), ()) for sign in range(signs)] for row in range(rows)]


def may_be(named, many):
    """What is named, and the least that isn't, if there is one."""
    return [thing for thing in range(many) if thing in named or all(other in named for other in range(thing))]


def plain_tree(rows, signs):
    """(machine, steps or None) of each node, by the words of point 19, without calling one's own self."""
    told = []
    to_do = [{}]
    while to_do:
        table = to_do.pop()
        machine = machine_of(table, rows, signs)
        trail, ended = samples.plain_walk(machine, 60)
        told.append((machine, len(trail) - 1 if ended else None))
        if ended:
            row, place, strip = trail[-1]
            there = (row, dict(strip).get(place, 0))
            puts = may_be({0} | {entry[0] for entry in table.values()}, signs)
            afters = may_be({0} | {entry[2] for entry in table.values()}, rows)
            ways = [-1, 1] if table else [1]
            children = [{**table, there: entry} for entry in itertools.product(puts, ways, afters)]
            to_do += reversed(children)
    return told


def all_machines(rows, signs):
    """All machines of a size, one by one."""
    entries = samples.entries_of(rows, signs)
    for told in itertools.product(entries, repeat=rows * signs):
        yield [list(told[row * signs:row * signs + signs]) for row in range(rows)]


def drawn(rows, signs, each):
    """Each so manieth of all machines of a size."""
    return itertools.islice(all_machines(rows, signs), 0, None, each)


class Trees(unittest.TestCase):

    def test_of_one_row(self):
        for signs in (2, 3, 4):
            empty = [()] * (signs - 1)
            nodes = tree(1, signs)
            self.assertEqual([machine for machine, paper in nodes], [
                [[()] + empty], [[(0, 1, 0)] + empty], [[(1, 1, 0)] + empty]])
            self.assertEqual(nodes[0][1], ("ends", 0))
            for machine, paper in nodes[1:]:
                self.assertEqual(paper[0], "drift")

    def test_the_first_nodes_of_two_rows(self):
        for (machine, paper), (told, kind) in zip(FIRST_NODES, tree(2, 2)):
            self.assertEqual(told, machine)
            self.assertEqual(kind[0], paper[0])
            self.assertTrue(shows(machine, paper))
            if paper[0] == "ends":
                self.assertEqual(kind, paper)

    def test_the_children_of_the_first_node(self):
        nodes = [machine for machine, paper in tree(2, 2)]
        children = [samples.changed(samples.filled(2, 2), 0, 0, entry)
                    for entry in ((0, 1, 0), (0, 1, 1), (1, 1, 0), (1, 1, 1))]
        places = [nodes.index(child) for child in children]
        self.assertEqual(places, sorted(places))
        self.assertEqual(places[:2], [1, 2])
        # Row 0 for sign 0 has an entry of another way at no node.
        self.assertEqual({machine[0][0] for machine in nodes}, {()} | {child[0][0] for child in children})

    def test_all_nodes_in_their_order(self):
        for rows, signs in SIZES:
            nodes = tree(rows, signs)
            plain = plain_tree(rows, signs)
            self.assertEqual([machine for machine, paper in nodes], [machine for machine, steps in plain])
            for (machine, paper), (same, steps) in zip(nodes, plain):
                self.assertEqual(paper[0] == "ends", steps is not None)
                if steps is not None:
                    self.assertEqual(paper, ("ends", steps))
        self.assertEqual([len(tree(rows, signs)) for rows, signs in SIZES], [3, 3, 3, 149])

    def test_the_papers_are_those_by_which_a_machine_is_sorted(self):
        for rows, signs in SIZES:
            for machine, paper in tree(rows, signs):
                told = sorted_as(machine)
                self.assertEqual(paper[0], told[0])
                if paper[0] in ("ring", "drift"):
                    self.assertTrue(0 <= paper[1] < paper[2] <= 60)
                else:
                    self.assertEqual(paper, told)

    def test_each_node_is_settled(self):
        for rows, signs in SIZES:
            for machine, paper in tree(rows, signs):
                self.assertNotEqual(paper, ("open",))
                self.assertIs(shows(machine, paper), True)

    def test_sizes_that_are_refused(self):
        for rows, signs in NO_SIZES + TOO_GREAT:
            with self.assertRaises(NoSize):
                tree(rows, signs)

    def test_what_is_told_is_the_askers_own(self):
        for rows, signs in SIZES:
            told = tree(rows, signs)
            kept = copy.deepcopy(told)
            self.assertIsInstance(told, list)
            self.assertFalse(samples.has_list_twice(told))
            again = tree(rows, signs)
            self.assertFalse(samples.share_a_list(told, again))
            samples.spoil(again)
            self.assertEqual(told, kept)
            self.assertEqual(tree(rows, signs), kept)


class Nodes(unittest.TestCase):

    def check(self, nodes, machine):
        """The told node does the same steps, but for the told names and sides, up to a common end or for 40 steps."""
        place, rows, signs, turned = node_of(machine)
        node = nodes[place]
        self.assertIs(turned, machine[0][0] != () and machine[0][0][1] == -1)
        for names, many in ((rows, len(machine)), (signs, len(machine[0]))):
            self.assertEqual(names[0], 0)
            self.assertEqual(len(set(names)), len(names))
            self.assertTrue(set(names) <= set(range(many)))
        side = -1 if turned else 1
        trail, ended = samples.plain_walk(machine, 40)
        partner, partner_ended = samples.plain_walk(node, 40)
        self.assertEqual(ended, partner_ended)
        named = [(rows[row], where * side, sorted([(at * side, signs[sign]) for at, sign in strip]))
                 for row, where, strip in partner]
        self.assertEqual(named, trail)
        self.check_names(node, rows, signs)

    def check_names(self, node, rows, signs):
        """As many rows and signs are named as the node's entries go to and put, 0 counted."""
        entries = [entry for row in node for entry in row if entry != ()]
        self.assertEqual(len(rows), len({0} | {entry[2] for entry in entries}))
        self.assertEqual(len(signs), len({0} | {entry[0] for entry in entries}))

    def check_all(self, rows, signs, machines):
        nodes = [machine for machine, paper in tree(rows, signs)]
        for machine in machines:
            self.check(nodes, machine)

    def test_every_machine_of_one_row(self):
        self.check_all(1, 2, all_machines(1, 2))
        self.check_all(1, 3, all_machines(1, 3))
        self.check_all(1, 4, drawn(1, 4, 5))

    def test_machines_of_two_rows_and_two_signs(self):
        self.check_all(2, 2, drawn(2, 2, 13))

    def test_each_node_of_the_tree_is_its_own(self):
        for rows, signs in SIZES:
            for place, (machine, paper) in enumerate(tree(rows, signs)):
                told = node_of(machine)
                self.assertEqual(told[0], place)
                self.assertEqual(told[1], list(range(len(told[1]))))
                self.assertEqual(told[2], list(range(len(told[2]))))
                self.assertIs(told[3], False)

    def test_without_any_step(self):
        for rows, signs in SIZES:
            self.assertEqual(node_of(samples.filled(rows, signs)), (0, [0], [0], False))
            machine = samples.changed(samples.filled(rows, signs, (1, -1, rows - 1)), 0, 0, ())
            self.assertEqual(node_of(machine), (0, [0], [0], False))

    def test_written_out(self):
        for way, turned in ((1, False), (-1, True)):
            self.assertEqual(node_of([[(0, way, 0), ()]]), (1, [0], [0], turned))
            self.assertEqual(node_of([[(1, way, 0), ()]]), (2, [0], [0, 1], turned))
            self.assertEqual(node_of([[(3, way, 0), (1, 1, 0), (), (2, -1, 0)]]), (2, [0], [0, 3], turned))
            self.assertEqual(node_of([[(2, way, 0), (1, -1, 0), (0, 1, 0)]]), (2, [0], [0, 2], turned))
            self.assertEqual(node_of([[(0, way, 1), ()], [(), ()]]), (2, [0, 1], [0], turned))
            self.assertEqual(node_of([[(0, way, 1), ()], [(0, -way, 0), ()]]), (3, [0, 1], [0], turned))
            self.assertEqual(node_of([[(0, way, 1), ()], [(1, -way, 0), ()]]), (7, [0, 1], [0, 1], turned))
            self.assertEqual(node_of([[(0, way, 1), (1, way, 1)], [(1, -way, 0), ()]]), (7, [0, 1], [0, 1], turned))
            self.assertEqual(node_of([[(0, way, 1), ()], [(1, -way, 0), (0, -way, 0)]]), (8, [0, 1], [0, 1], turned))

    def test_entries_that_are_never_met_change_nothing(self):
        for entry in samples.entries_of(2, 2):
            self.assertEqual(node_of([[(0, -1, 0), entry], [entry, (1, 1, 1)]]), (1, [0], [0], True))
            self.assertEqual(node_of([[(0, 1, 1), entry], [(), entry]]), (2, [0, 1], [0], False))
        for entry in samples.entries_of(1, 4):
            self.assertEqual(node_of([[(2, 1, 0), entry, entry, entry]]), (2, [0], [0, 2], False))

    def test_no_machine_goes_ahead_of_no_size(self):
        for machine in samples.no_machines():
            with self.assertRaises(NoMachine):
                node_of(machine)

    def test_sizes_that_are_refused(self):
        for rows, signs in TOO_GREAT:
            for machine in samples.mixed(rows, signs, 3) + [samples.filled(rows, signs)]:
                with self.assertRaises(NoSize):
                    node_of(machine)

    def test_what_is_handed_in_stays_and_what_is_told_is_the_askers_own(self):
        for rows, signs in SIZES:
            for machine in samples.mixed(rows, signs, 8):
                before = copy.deepcopy(machine)
                told = node_of(machine)
                kept = copy.deepcopy(told)
                self.assertEqual(machine, before)
                self.assertFalse(samples.has_list_twice(told))
                samples.spoil(told)
                self.assertEqual(node_of(machine), kept)


if __name__ == "__main__":
    unittest.main()
