"""Points 15 and 16: shut sets."""

import copy
import itertools
import unittest

import samples
from endnever.errors import NoMachine, NoWidth
from endnever.shut import least_shut, shows_shut

WIDTHS = {2: [1, 2, 3, 4], 3: [1, 2], 4: [1, 2]}
FAR = 10 ** 5000

# (machine, paper): the least shut sets, written out.
WRITTEN = [
    (samples.RIGHT_FOR_EVER, ("shut", 1, [(0,), (1,)], [(0,)], [((0,), 0, 0, (0,)), ((1,), 0, 0, (0,))])),
    (samples.LEFT_FOR_EVER, ("shut", 1, [(0,)], [(0,), (1,)], [((0,), 0, 0, (0,)), ((0,), 0, 0, (1,))])),
    (samples.TO_AND_FRO, ("shut", 1, [(0,)], [(0,)], [((0,), 0, 0, (0,)), ((0,), 1, 0, (0,))])),
    (samples.RIGHT_FOR_EVER, ("shut", 2, [(0, 0), (0, 1), (1, 1)], [(0, 0)], [
        ((0, 0), 0, 0, (0, 0)), ((0, 1), 0, 0, (0, 0)), ((1, 1), 0, 0, (0, 0))])),
    (samples.LEFT_FOR_EVER, ("shut", 2, [(0, 0)], [(0, 0), (1, 0), (1, 1)], [
        ((0, 0), 0, 0, (0, 0)), ((0, 0), 0, 0, (1, 0)), ((0, 0), 0, 0, (1, 1))])),
    (samples.TO_AND_FRO, ("shut", 4, [(0, 0, 0, 0)], [(0, 0, 0, 0)], [
        ((0, 0, 0, 0), 0, 0, (0, 0, 0, 0)), ((0, 0, 0, 0), 1, 0, (0, 0, 0, 0))])),
]

# A machine for each width that has least shut sets of this width, but of no lesser one.
NEEDED = {
    1: [[(0, 1, 1), ()], [(1, 1, 1), ()]],
    2: [[(0, -1, 1), ()], [(1, 1, 0), (1, -1, 0)]],
    3: [[(1, 1, 2), (0, -1, 3)], [(), (1, 1, 2)], [(1, -1, 0), (1, 1, 0)], [(0, 1, 2), (1, -1, 1)]],
    4: [[(1, 1, 3), (1, -1, 3)], [(), (1, 1, 3)], [(1, -1, 1), (1, 1, 1)], [(1, -1, 0), (0, 1, 2)]],
}


def words_of(width, signs):
    return list(itertools.product(range(signs), repeat=width))


def middles_of(machine, width):
    """All middles of a machine's rows and signs."""
    words = words_of(width, len(machine[0]))
    return list(itertools.product(words, range(len(machine)), range(len(machine[0])), words))


def plain_shows(machine, width, lefts, rights, middles):
    """The rules of point 15, one by one, for lists of words and middles of the machine."""
    signs = range(len(machine[0]))
    noughts = tuple([0] * width)
    if noughts not in lefts or noughts not in rights or (noughts, 0, 0, noughts) not in middles:
        return False
    for left, row, sign, right in middles:
        if machine[row][sign] == ():
            return False
        put, way, following = machine[row][sign]
        if way == 1:
            after = tuple(list(left)[1:] + [put])
            if after not in lefts:
                return False
            for x in signs:
                beyond = tuple(list(right)[1:] + [x])
                if beyond in rights and (after, following, right[0], beyond) not in middles:
                    return False
        else:
            after = tuple([put] + list(right)[:width - 1])
            if after not in rights:
                return False
            for x in signs:
                beyond = tuple([x] + list(left)[:width - 1])
                if beyond in lefts and (beyond, following, left[width - 1], after) not in middles:
                    return False
    return True


def plain_least(machine, width):
    """The least shut sets, one thing more at a time until no rule asks for another; None where one ends."""
    noughts = tuple([0] * width)
    lefts, rights, middles = {noughts}, {noughts}, {(noughts, 0, 0, noughts)}
    if any(machine[row][sign] == () for _, row, sign, _ in middles):
        return None
    while True:
        more = one_more(machine, width, lefts, rights, middles)
        if more is None:
            return ("shut", width, sorted(lefts), sorted(rights), sorted(middles))
        box, thing = more
        box.add(thing)
        if box is middles and machine[thing[1]][thing[2]] == ():
            return None


def one_more(machine, width, lefts, rights, middles):
    """A set and something that a rule asks for in it, or None."""
    for left, row, sign, right in middles:
        put, way, following = machine[row][sign]
        near, far = (lefts, rights) if way == 1 else (rights, lefts)
        after = left[1:] + (put,) if way == 1 else (put,) + right[:-1]
        if after not in near:
            return near, after
        for x in range(len(machine[0])):
            beyond = right[1:] + (x,) if way == 1 else (x,) + left[:-1]
            middle = (after, following, right[0], beyond) if way == 1 else (beyond, following, left[-1], after)
            if beyond in far and middle not in middles:
                return middles, middle
    return None


def full(machine, width):
    """The paper with all words and all middles."""
    words = words_of(width, len(machine[0]))
    return ("shut", width, list(words), list(words), middles_of(machine, width))


def without(paper, at, place):
    """A paper with one thing of one of its lists left out."""
    lists = [list(part) for part in paper[2:]]
    del lists[at][place]
    return paper[:2] + tuple(lists)


def with_more(paper, at, thing):
    """A paper with one thing more in one of its lists, ahead of the others."""
    lists = [list(part) for part in paper[2:]]
    lists[at].insert(0, thing)
    return paper[:2] + tuple(lists)


def shut_machines():
    """(machine, paper): machines of all sizes with the least shut sets of each width, if there are some."""
    told = []
    for rows, signs in samples.sizes():
        for machine in samples.mixed(rows, signs, 12) + [samples.filled(rows, signs, (1, 1, 0))]:
            papers = [least_shut(machine, width) for width in WIDTHS[signs]]
            told += [(machine, paper) for paper in papers if paper is not None]
    return told


def subsets(things):
    return [[thing for at, thing in enumerate(things) if number >> at & 1] for number in range(2 ** len(things))]


class Shows(unittest.TestCase):

    def test_written_out(self):
        for machine, paper in WRITTEN:
            self.assertIs(shows_shut(machine, paper), True)
            for other in (samples.EMPTY, [[(), (1, 1, 0)]]):
                self.assertIs(shows_shut(other, paper), False)

    def test_one_thing_left_out(self):
        for machine, paper in WRITTEN:
            for at in range(3):
                for place in range(len(paper[2 + at])):
                    self.assertIs(shows_shut(machine, without(paper, at, place)), False)

    def test_one_thing_left_out_of_the_least_ones_of_many_machines(self):
        for machine, paper in shut_machines():
            for at in range(3):
                for place in list(range(len(paper[2 + at])))[::17]:
                    self.assertIs(shows_shut(machine, without(paper, at, place)), False)

    def test_without_the_word_or_the_middle_of_noughts(self):
        for rows, signs in samples.sizes():
            for entry in ((1, 1, 0), (1, -1, 0)):
                machine = samples.filled(rows, signs, entry)
                for width in WIDTHS[signs][:2]:
                    paper = full(machine, width)
                    self.assertIs(shows_shut(machine, paper), True)
                    for at in range(3):
                        self.assertIs(shows_shut(machine, without(paper, at, 0)), False)
                    self.assertIs(shows_shut(machine, ("shut", width, [], [], [])), False)
                    self.assertIs(shows_shut(machine, ("shut", width, paper[2], paper[3], [])), False)

    def test_all_twice_and_in_another_order(self):
        for machine, paper in WRITTEN + shut_machines():
            for lists in ([part[::-1] for part in paper[2:]], [part + part[::-1] for part in paper[2:]],
                          [part + part[:1] for part in paper[2:]]):
                self.assertIs(shows_shut(machine, paper[:2] + tuple(lists)), True)

    def test_one_thing_more(self):
        told = []
        for machine, paper in WRITTEN[:5]:
            words = words_of(paper[1], len(machine[0]))
            for at, things in enumerate((words, words, middles_of(machine, paper[1]))):
                for thing in things:
                    other = with_more(paper, at, thing)
                    told.append(shows_shut(machine, other))
                    self.assertIs(told[-1], plain_shows(machine, *other[1:]))
        self.assertIn(True, told)
        self.assertIn(False, told)

    def test_one_more_that_asks_for_others(self):
        machine, paper = WRITTEN[0]
        # A right word of 1 may come beside the machine then, and the middle with it isn't there.
        self.assertIs(shows_shut(machine, with_more(paper, 1, (1,))), False)
        # A middle beside a right word of 1 asks for the middle at the 1.
        self.assertIs(shows_shut(machine, with_more(paper, 2, ((1,), 0, 0, (1,)))), False)
        machine, paper = WRITTEN[2]
        # A left word that no step brings to the machine asks for a middle only where one goes to the left.
        self.assertIs(shows_shut(machine, with_more(paper, 0, (1,))), False)
        self.assertIs(shows_shut(machine, with_more(paper, 1, (1,))), False)

    def test_a_middle_at_an_empty_entry(self):
        for rows, signs in samples.sizes():
            for row in range(rows):
                for sign in range(signs):
                    machine = samples.changed(samples.filled(rows, signs, (0, 1, 0)), row, sign, ())
                    self.assertIs(shows_shut(machine, full(machine, 1)), False)
                    paper = ("shut", 1, [(0,)], [(0,)], [((0,), 0, 0, (0,))])
                    self.assertIs(shows_shut(machine, paper), (row, sign) != (0, 0))
                    more = with_more(paper, 2, ((0,), row, sign, (0,)))
                    self.assertIs(shows_shut(machine, more), False)

    def test_all_papers_of_width_1_for_machines_of_one_row(self):
        told = []
        words = words_of(1, 2)
        for entries in itertools.product(samples.entries_of(1, 2), repeat=2):
            machine = [list(entries)]
            lists = [subsets(words), subsets(words), subsets(middles_of(machine, 1))]
            for lefts, rights, middles in itertools.product(lists[0][1:], lists[1][1:], lists[2][::3]):
                told.append(shows_shut(machine, ("shut", 1, lefts, rights, middles)))
                self.assertIs(told[-1], plain_shows(machine, 1, lefts, rights, middles))
        self.assertGreater(told.count(True), 100)

    def test_papers_that_are_nearly_full(self):
        told = []
        for rows, signs in samples.sizes():
            for machine in samples.mixed(rows, signs, 6):
                going = [[entry or (1, 1, 0) for entry in row] for row in machine]
                paper = full(going, 1)
                for at, step in ((0, 1), (1, 1), (2, 5)):
                    for place in range(1, len(paper[2 + at]), step):
                        other = without(paper, at, place)
                        told.append(shows_shut(going, other))
                        self.assertIs(told[-1], plain_shows(going, *other[1:]))
        self.assertIn(True, told)
        self.assertIn(False, told)

    def test_whatever_is_let_by_never_ends(self):
        for machine, paper in shut_machines():
            self.assertIs(shows_shut(machine, paper), True)
            self.assertFalse(samples.plain_walk(machine, 150)[1])
        for steps, machine in samples.ENDING:
            for width in WIDTHS[len(machine[0])][:2]:
                paper = full(machine, width)
                going = [middle for middle in paper[4] if machine[middle[1]][middle[2]] != ()]
                self.assertIs(shows_shut(machine, paper), False)
                self.assertIs(shows_shut(machine, paper[:4] + (going,)), False)

    def test_what_is_no_machine_is_refused_first(self):
        for machine in samples.no_machines():
            for paper in (WRITTEN[0][1], ("shut", 0, [], [], []), ("shut", FAR, [], [], [])):
                with self.assertRaises(NoMachine):
                    shows_shut(machine, paper)

    def test_the_paper_stays_as_it_was(self):
        for machine, paper in WRITTEN + shut_machines()[:40]:
            before = copy.deepcopy((machine, paper))
            for _ in range(2):
                self.assertIs(shows_shut(machine, paper), True)
                self.assertEqual((machine, paper), before)


class NoPapers(unittest.TestCase):
    """Papers with a width, a word or a middle that is none."""

    def test_widths_that_are_none(self):
        for rows, signs in samples.sizes():
            machine = samples.filled(rows, signs, (0, 1, 0))
            for width in range(-3, 9):
                noughts = (0,) * width
                paper = ("shut", width, [noughts], [noughts], [(noughts, 0, 0, noughts)])
                self.assertIs(shows_shut(machine, paper), width in WIDTHS[signs])
            for width in (10, 1000, 10 ** 30, FAR, -10 ** 30, -FAR):
                for words in ([], [()], [(0,)], [(0, 0)]):
                    middles = [(word, 0, 0, word) for word in words]
                    self.assertIs(shows_shut(machine, ("shut", width, words, words, middles)), False)

    def test_a_width_too_great_with_all_its_words(self):
        for signs, width in ((2, 5), (3, 3), (4, 3)):
            # But for the width, all rules are kept.
            machine = [[(0, 1, 0)] * signs]
            self.assertIs(shows_shut(machine, full(machine, width)), False)

    def test_words_that_are_none(self):
        for machine, paper in WRITTEN:
            width = paper[1]
            noughts = (0,) * width
            bad = [(), noughts + (0,), noughts[1:], noughts * 2, noughts[1:] + (2,), (-1,) + noughts[1:],
                   (2,) + noughts[1:], noughts[1:] + (-1,), (FAR,) * width, (-FAR,) * width, (0,) * 50]
            for word in bad:
                if len(word) != width or not all(0 <= sign < 2 for sign in word):
                    for at in (0, 1):
                        self.assertIs(shows_shut(machine, with_more(paper, at, word)), False)
                        lists = [list(part) for part in paper[2:]]
                        lists[at].append(word)
                        self.assertIs(shows_shut(machine, paper[:2] + tuple(lists)), False)

    def test_middles_that_are_none(self):
        for machine, paper in WRITTEN:
            width = paper[1]
            rows = len(machine)
            noughts = (0,) * width
            bad = [(noughts, row, 0, noughts) for row in (-1, -rows, rows, rows + 1, 4, FAR, -FAR)]
            bad += [(noughts, 0, sign, noughts) for sign in (-1, -2, 2, 3, 4, FAR, -FAR)]
            for word in (noughts + (0,), noughts[1:], (), (2,) + noughts[1:], noughts[1:] + (-1,), (-FAR,) * width):
                bad += [(word, 0, 0, noughts), (noughts, 0, 0, word), (word, 0, 0, word)]
            for middle in bad:
                self.assertIs(shows_shut(machine, with_more(paper, 2, middle)), False)

    def test_signs_and_rows_of_other_machines(self):
        # The paper is one for a machine of more rows and signs, but has nothing of this one's sizes beyond.
        one, other = [[(1, 1, 0), (1, 1, 0)]], [[(1, 1, 0)] * 3] * 2
        self.assertIs(shows_shut(other, full(other, 1)), True)
        self.assertIs(shows_shut(one, full(other, 1)), False)
        self.assertIs(shows_shut(other, full(one, 1)), True)


class Least(unittest.TestCase):

    def test_written_out(self):
        for machine, paper in WRITTEN:
            self.assertEqual(least_shut(machine, paper[1]), paper)

    def test_one_more_thing_at_a_time(self):
        found = 0
        for rows, signs in samples.sizes():
            for machine in samples.mixed(rows, signs, 40) + [samples.filled(rows, signs, (1, -1, rows - 1))]:
                for width in WIDTHS[signs]:
                    told = least_shut(machine, width)
                    if told is None or len(told[4]) < 80:
                        self.assertEqual(told, plain_least(machine, width))
                    found += told is not None
        self.assertGreater(found, 50)

    def test_each_width_that_there_is(self):
        for rows, signs in samples.sizes():
            machine = samples.filled(rows, signs, (0, 1, 0))
            for width in range(-3, 12):
                noughts = (0,) * width
                if width in WIDTHS[signs]:
                    paper = ("shut", width, [noughts], [noughts], [(noughts, 0, 0, noughts)])
                    self.assertEqual(least_shut(machine, width), paper)
                else:
                    with self.assertRaises(NoWidth):
                        least_shut(machine, width)
            for width in (1000, 10 ** 30, FAR, -1000, -10 ** 30, -FAR):
                with self.assertRaises(NoWidth):
                    least_shut(machine, width)

    def test_no_width_goes_ahead_of_an_end_and_no_machine_ahead_of_it(self):
        for width in (0, -1, 5, FAR):
            with self.assertRaises(NoWidth):
                least_shut(samples.EMPTY, width)
        for machine in samples.no_machines():
            for width in (0, 1, 2, 5, FAR):
                with self.assertRaises(NoMachine):
                    least_shut(machine, width)

    def test_none_where_a_middle_has_the_empty_entry(self):
        for _, machine in samples.ENDING:
            for width in WIDTHS[len(machine[0])]:
                self.assertIsNone(least_shut(machine, width))
        for rows, signs in samples.sizes():
            machine = samples.changed(samples.filled(rows, signs, (1, 1, 0)), 0, 0, ())
            for width in WIDTHS[signs]:
                self.assertIsNone(least_shut(machine, width))

    def test_in_order_and_nothing_twice_and_let_by(self):
        papers = shut_machines()
        self.assertEqual({(len(machine[0]), paper[1]) for machine, paper in papers},
                         {(signs, width) for signs in WIDTHS for width in WIDTHS[signs]})
        for machine, paper in papers:
            for part in paper[2:]:
                self.assertEqual(part, sorted(set(part)))
            self.assertIs(shows_shut(machine, paper), True)

    def test_where_some_paper_shows_it_the_least_one_does(self):
        words = words_of(1, 2)
        for entries in itertools.product(samples.entries_of(1, 2), repeat=2):
            machine = [list(entries)]
            middles = subsets(middles_of(machine, 1))
            some = [plain_shows(machine, 1, lefts, rights, those) for lefts in subsets(words)
                    for rights in subsets(words) for those in middles]
            self.assertEqual(any(some), least_shut(machine, 1) is not None)

    def test_a_greater_width_may_be_needed(self):
        for width, machine in NEEDED.items():
            for lesser in range(1, width):
                self.assertIsNone(least_shut(machine, lesser))
            self.assertIsNotNone(least_shut(machine, width))


if __name__ == "__main__":
    unittest.main()
