"""Points 2 and 5, of what is asked of a machine: NoMachine goes first, and what is told is the asker's own."""

import copy
import unittest

import samples
from endnever.alike import are_alike, groups, least_form
from endnever.blocks import by_blocks, through
from endnever.errors import NoMachine
from endnever.goingback import no_back, parts_at
from endnever.lookers import shows
from endnever.meets import met_entries, parts_from, records, visits
from endnever.rings import drift, ring
from endnever.shut import least_shut, shows_shut
from endnever.sorting import sorted_as
from endnever.strides import by_strides
from endnever.texts import read_machine, show_machine

# Each is asked of a machine alone: the other things handed in are plain numbers.
ASKS = {
    "show_machine": show_machine,
    "read_machine": lambda machine: read_machine(show_machine(machine)),
    "ring": lambda machine: ring(machine, 50),
    "ring, at once": lambda machine: ring(machine, 0),
    "drift": lambda machine: drift(machine, 30),
    "drift, at once": lambda machine: drift(machine, 0),
    "parts_at 0": lambda machine: parts_at(machine, 0),
    "parts_at 2": lambda machine: parts_at(machine, 2),
    "no_back": lambda machine: no_back(machine, 4),
    "met_entries": lambda machine: met_entries(machine, 40),
    "met_entries, at once": lambda machine: met_entries(machine, 0),
    "visits": lambda machine: visits(machine, 40),
    "visits, at once": lambda machine: visits(machine, 0),
    "records": lambda machine: records(machine, 40),
    "records, at once": lambda machine: records(machine, 0),
    "parts_from": lambda machine: parts_from(machine, samples.RIGHT_FOR_EVER, 20),
    "parts_from, the other one": lambda machine: parts_from(samples.RIGHT_FOR_EVER, machine, 20),
    "parts_from, at once": lambda machine: parts_from(machine, machine, 0),
    "shows_shut": lambda machine: shows_shut(machine, ("shut", 1, [(0,)], [(0,)], [((0,), 0, 0, (0,))])),
    "least_shut 1": lambda machine: least_shut(machine, 1),
    "least_shut 2": lambda machine: least_shut(machine, 2),
    "shows, ends": lambda machine: shows(machine, ("ends", 5)),
    "shows, ring": lambda machine: shows(machine, ("ring", 0, 2)),
    "shows, drift": lambda machine: shows(machine, ("drift", 0, 1)),
    "shows, back": lambda machine: shows(machine, ("back", 2)),
    "shows, open": lambda machine: shows(machine, ("open",)),
    "least_form": least_form,
    "are_alike": lambda machine: are_alike(machine, samples.RIGHT_FOR_EVER),
    "are_alike, the other one": lambda machine: are_alike(samples.RIGHT_FOR_EVER, machine),
    "groups": lambda machine: groups([samples.EMPTY, machine, samples.RIGHT_FOR_EVER, machine]),
    "sorted_as": sorted_as,
    "through": lambda machine: through(machine, (0, 1), 0, 1),
    "by_blocks": lambda machine: by_blocks(machine, 2, 9),
    "by_strides": lambda machine: by_strides(machine, 0, ([(1, 2)], 0, [(0, 3), (1, 1)]), 9),
    "by_strides, at once": lambda machine: by_strides(machine, 0, ([], 0, []), 0),
    "by_blocks, at once": lambda machine: by_blocks(machine, 3, 0),
}


def many_machines():
    told = [machine for _, machine in samples.ENDING[:8]] + samples.NEVER
    for rows, signs in samples.sizes():
        told += [samples.filled(rows, signs), samples.filled(rows, signs, (1, -1, 0))]
        told += samples.mixed(rows, signs, 4)
    return told


class AskedOfAMachine(unittest.TestCase):

    def test_what_is_no_machine_is_refused_ahead_of_all_else(self):
        for machine in samples.no_machines():
            before = copy.deepcopy(machine)
            for name, ask in ASKS.items():
                with self.assertRaises(NoMachine, msg=f"{name} {machine}"):
                    ask(machine)
            self.assertEqual(machine, before)

    def test_what_is_handed_in_stays_as_it_was(self):
        for machine in many_machines():
            before = copy.deepcopy(machine)
            for name, ask in ASKS.items():
                ask(machine)
                self.assertEqual(machine, before, name)

    def test_no_list_stands_at_two_places(self):
        for machine in many_machines():
            for name, ask in ASKS.items():
                told = ask(machine)
                self.assertFalse(samples.has_list_twice(told), name)
                self.assertFalse(samples.share_a_list(told, machine), name)
                self.assertFalse(samples.share_a_list(told, ask(machine)), name)

    def test_the_same_is_told_again_whatever_became_of_the_first(self):
        for machine in many_machines():
            for name, ask in ASKS.items():
                told = ask(machine)
                kept = copy.deepcopy(told)
                samples.spoil(told)
                self.assertEqual(ask(machine), kept, name)

    def test_what_was_told_stays_whatever_is_done_or_asked_later(self):
        for machine in many_machines():
            mine = copy.deepcopy(machine)
            told = [ask(mine) for ask in ASKS.values()]
            kept = copy.deepcopy(told)
            later = [ask(mine) for ask in ASKS.values()]
            samples.spoil(later)
            samples.spoil(mine)
            self.assertEqual(told, kept)

    def test_a_list_that_was_changed_behind_is_another_machine(self):
        for name, ask in ASKS.items():
            mine = copy.deepcopy(samples.RIGHT_FOR_EVER)
            ask(mine)
            mine[0][0] = (0, -1, 0)
            self.assertEqual(ask(mine), ask([[(0, -1, 0), ()]]), name)


if __name__ == "__main__":
    unittest.main()
