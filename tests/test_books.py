"""Points 3, 13 and 14: books."""

import copy
import random
import unittest

import samples
import test_rings
import test_sorting
from endnever.books import Book
from endnever.errors import Full, MillError, NoDeed, NoMachine, NoName, NoPaper, NoSuch, Twice
from endnever.lookers import shows
from endnever.shut import least_shut

ENDS = [[(1, 1, 1), (1, -1, 1)], [(1, -1, 0), ()]]
NO_MACHINE = [[(), ()], [()]]
NAMES = ["a", "z", "ab", "zzzzzzzz", "abcdefgh", "qwertyui", "b", "c", "d", "e", "f", "g", "h", "i", "m"]
NO_NAMES = ["", "abcdefghi", "A", "aB", "Ab", "a b", " a", "a ", " ", "a1", "1", "0", "a_b", "a-b", "-", "a\n", "\n",
            "abcdefg ", "abcdefgH", "a,b", "~", "{", "`", "@", "[", "x" * 500]

# (machine, paper that is let by, papers that aren't).
PAPERS = [
    (ENDS, ("ends", 5), [("ends", 4), ("ends", 6), ("ends", 0), ("ring", 0, 2), ("drift", 0, 1), ("back", 1)]),
    (samples.EMPTY, ("ends", 0), [("ends", 1), ("back", 1), ("open",)]),
    (samples.TO_AND_FRO, ("ring", 0, 2), [("ring", 2, 0), ("ring", 0, 1), ("drift", 0, 2), ("ends", 2), ("open",)]),
    (samples.RIGHT_FOR_EVER, ("drift", 0, 1), [("drift", 1, 0), ("drift", 3, 3), ("ring", 0, 1), ("ends", 1)]),
    (samples.filled(2, 2, (1, 1, 1)), ("back", 1), [("back", 0), ("back", 9), ("ends", 3), ("ring", 0, 1)]),
    (test_rings.SWEEPER, least_shut(test_rings.SWEEPER, 1), [
        ("shut", 1, [], [], []), ("shut", 1, [(0,)], [(0,)], [((0,), 0, 0, (0,))]), ("shut", 0, [], [], [])]),
]


def tells(book):
    """All that a book tells."""
    names = book.names()
    return (names, [book.machine(name) for name in names], [book.paper_of(name) for name in names], book.ended(),
            book.never(), book.unsettled())


def filled_book():
    """A book with a machine and its paper of each kind, and one without a paper."""
    book = Book()
    for at, (machine, paper, wrong) in enumerate(PAPERS):
        book.put(NAMES[at], machine)
        book.paper(NAMES[at], paper)
    book.put("none", samples.WIPER)
    return book


class PlainBook:
    """The deeds in a row, and how many of them are done; all that is told is found by doing them anew."""

    def __init__(self, deeds=(), many=0):
        self.deeds = list(deeds)
        self.many = many

    def held(self):
        machines, papers = {}, {}
        for deed, name, thing in self.deeds[:self.many]:
            if deed == "put":
                machines[name] = thing
            elif deed == "out":
                del machines[name]
                papers.pop(name, None)
            else:
                papers[name] = thing
        return machines, papers

    def do(self, deed, name=None, thing=None):
        """The refusal's class, or None where it is done."""
        if deed in ("back", "again"):
            way = 1 if deed == "again" else -1
            if not 0 <= self.many + way <= len(self.deeds):
                return NoDeed
            self.many += way
            return None
        refusal = self.refusal(deed, name, thing)
        if refusal is None:
            self.deeds = self.deeds[:self.many] + [(deed, name, copy.deepcopy(thing))]
            self.many += 1
        return refusal

    def refusal(self, deed, name, thing):
        machines, papers = self.held()
        if deed != "put":
            if name not in machines:
                return NoSuch
            return NoPaper if deed == "paper" and not shows(machines[name], thing) else None
        if name in NO_NAMES:
            return NoName
        if name in machines:
            return Twice
        if thing == NO_MACHINE:
            return NoMachine
        return Full if len(machines) == 12 else None

    def tells(self):
        machines, papers = self.held()
        names = sorted(machines)
        ended = [(name, papers[name][1]) for name in names if name in papers and papers[name][0] == "ends"]
        never = [name for name in names if name in papers and papers[name][0] != "ends"]
        return (names, [machines[name] for name in names], [papers.get(name) for name in names], ended, never,
                [name for name in names if name not in papers])

    def twin(self):
        return PlainBook(self.deeds, self.many)


class Deeds(unittest.TestCase):

    def refuse(self, refusal, book, deed, *things):
        """The deed is refused so, and the book tells what it did; what could be done again still can."""
        before = tells(book)
        twin = book.twin()
        with self.assertRaises(refusal):
            getattr(book, deed)(*things)
        self.assertEqual(tells(book), before)
        for way in ("again", "back"):
            one, other = book.twin(), twin.twin()
            for _ in range(3):
                self.assertEqual(self.done(one, way), self.done(other, way))
                self.assertEqual(tells(one), tells(other))

    def done(self, book, deed):
        try:
            return getattr(book, deed)()
        except NoDeed:
            return NoDeed

    def test_a_new_book(self):
        book = Book()
        self.assertEqual(tells(book), ([], [], [], [], [], []))
        for deed in ("back", "again"):
            self.refuse(NoDeed, book, deed)

    def test_deeds_tell_none(self):
        book = Book()
        self.assertIsNone(book.put("a", ENDS))
        self.assertIsNone(book.paper("a", ("ends", 5)))
        self.assertIsNone(book.out("a"))
        self.assertIsNone(book.back())
        self.assertIsNone(book.again())

    def test_names(self):
        book = Book()
        for name in NAMES[:12]:
            book.put(name, ENDS)
        self.assertEqual(book.names(), sorted(NAMES[:12]))
        for name in NO_NAMES:
            self.refuse(NoName, Book(), "put", name, ENDS)
            self.refuse(NoSuch, book, "out", name)
            self.refuse(NoSuch, book, "paper", name, ("ends", 5))
            self.refuse(NoSuch, book, "machine", name)
            self.refuse(NoSuch, book, "paper_of", name)

    def test_put_refusals_in_order(self):
        book = Book()
        for name in NAMES[:11]:
            book.put(name, ENDS)
        self.refuse(NoMachine, book, "put", "new", NO_MACHINE)
        book.put(NAMES[11], ENDS)
        for name in NO_NAMES:
            self.refuse(NoName, book, "put", name, NO_MACHINE)
            self.refuse(NoName, book, "put", name, ENDS)
        for name in NAMES[:12]:
            self.refuse(Twice, book, "put", name, NO_MACHINE)
            self.refuse(Twice, book, "put", name, ENDS)
        self.refuse(NoMachine, book, "put", "new", NO_MACHINE)
        self.refuse(Full, book, "put", "new", ENDS)

    def test_what_is_no_machine(self):
        book = Book()
        for machine in samples.no_machines():
            with self.assertRaises(NoMachine):
                book.put("a", machine)
        self.assertEqual(tells(book), tells(Book()))

    def test_twelve_machines_and_no_more(self):
        book = Book()
        for name in NAMES[:12]:
            book.put(name, samples.EMPTY)
        for name in NAMES[12:]:
            self.refuse(Full, book, "put", name, samples.EMPTY)
        book.out(NAMES[3])
        book.put(NAMES[12], samples.EMPTY)
        self.refuse(Full, book, "put", NAMES[3], samples.EMPTY)
        self.assertEqual(len(book.names()), 12)

    def test_out(self):
        book = filled_book()
        for name in book.names():
            book.out(name)
            self.assertNotIn(name, book.names())
            self.refuse(NoSuch, book, "out", name)
            self.refuse(NoSuch, book, "machine", name)
            self.refuse(NoSuch, book, "paper_of", name)
            self.refuse(NoSuch, book, "paper", name, ("ends", 5))
        self.assertEqual(tells(book), tells(Book()))

    def test_out_takes_the_paper(self):
        book = Book()
        book.put("a", ENDS)
        book.paper("a", ("ends", 5))
        book.out("a")
        book.put("a", ENDS)
        self.assertIsNone(book.paper_of("a"))
        self.assertEqual((book.ended(), book.unsettled()), ([], ["a"]))

    def test_out_and_back_brings_both_again(self):
        book = filled_book()
        before = tells(book)
        for name in book.names():
            book.out(name)
            book.back()
            self.assertEqual(tells(book), before)

    def test_papers_let_by_and_not(self):
        for machine, paper, wrong in PAPERS:
            book = Book()
            book.put("a", machine)
            for other in wrong + [("open",)]:
                self.refuse(NoPaper, book, "paper", "a", other)
                self.refuse(NoSuch, book, "paper", "b", other)
            book.paper("a", paper)
            self.assertEqual(book.paper_of("a"), paper)
            for other in wrong:
                self.refuse(NoPaper, book, "paper", "a", other)
            self.refuse(NoSuch, book, "paper", "b", paper)

    def test_a_paper_in_the_place_of_an_earlier_one(self):
        book = Book()
        book.put("a", samples.TO_AND_FRO)
        papers = [("ring", 0, 2), ("ring", 5, 9), least_shut(samples.TO_AND_FRO, 1), ("ring", 0, 2)]
        for paper in papers:
            book.paper("a", paper)
            self.assertEqual(book.paper_of("a"), paper)
        for paper in papers[-2::-1] + [None]:
            book.back()
            self.assertEqual(book.paper_of("a"), paper)

    def test_a_paper_that_is_there_already_is_a_deed_too(self):
        book = Book()
        book.put("a", ENDS)
        book.paper("a", ("ends", 5))
        book.paper("a", ("ends", 5))
        book.back()
        self.assertEqual(book.paper_of("a"), ("ends", 5))
        book.back()
        self.assertIsNone(book.paper_of("a"))


class BackAndAgain(unittest.TestCase):

    def test_over_a_long_row(self):
        book = Book()
        pages = [tells(book)]
        for at in range(60):
            machine, paper, wrong = PAPERS[at % len(PAPERS)]
            name = NAMES[at % 10]
            if name in book.names():
                book.out(name)
                pages.append(tells(book))
            book.put(name, machine)
            pages.append(tells(book))
            book.paper(name, paper)
            pages.append(tells(book))
        for _ in range(2):
            for page in pages[-2::-1]:
                book.back()
                self.assertEqual(tells(book), page)
            with self.assertRaises(NoDeed):
                book.back()
            for page in pages[1:]:
                book.again()
                self.assertEqual(tells(book), page)
            with self.assertRaises(NoDeed):
                book.again()

    def test_again_behind_a_deed_is_refused(self):
        deeds = [("put", "b", ENDS), ("out", "a"), ("paper", "a", ("ends", 5))]
        for deed, *things in deeds:
            book = Book()
            book.put("a", ENDS)
            book.put("c", ENDS)
            book.back()
            getattr(book, deed)(*things)
            with self.assertRaises(NoDeed):
                book.again()
            book.back()
            self.assertEqual(book.names(), ["a"])
            book.again()
            self.assertEqual("c" in book.names(), False)

    def test_a_refused_deed_forgets_nothing(self):
        refused = [("put", "A", ENDS), ("put", "a", ENDS), ("put", "d", NO_MACHINE), ("out", "c"), ("machine", "c"),
                   ("paper", "c", ("ends", 5)), ("paper", "a", ("ends", 4)), ("paper_of", "c")]
        for deed, *things in refused:
            book = Book()
            book.put("a", ENDS)
            book.put("b", ENDS)
            book.put("c", ENDS)
            book.back()
            book.back()
            with self.assertRaises(MillError):
                getattr(book, deed)(*things)
            book.again()
            book.again()
            self.assertEqual(book.names(), ["a", "b", "c"])

    def test_back_takes_back_what_again_did(self):
        book = Book()
        for name in ("a", "b", "c"):
            book.put(name, ENDS)
        for _ in range(3):
            book.back()
            book.back()
            self.assertEqual(book.names(), ["a"])
            book.again()
            self.assertEqual(book.names(), ["a", "b"])
            book.back()
            self.assertEqual(book.names(), ["a"])
            book.again()
            book.again()
            self.assertEqual(book.names(), ["a", "b", "c"])

    def test_a_full_book_behind_back(self):
        book = Book()
        for name in NAMES[:12]:
            book.put(name, ENDS)
        book.back()
        with self.assertRaises(NoMachine):
            book.put("new", NO_MACHINE)
        book.put("new", ENDS)
        with self.assertRaises(Full):
            book.put("newer", ENDS)


class Tells(unittest.TestCase):

    def test_written_out(self):
        book = Book()
        for name, machine in (("m", ENDS), ("a", samples.EMPTY), ("z", samples.TO_AND_FRO), ("ab", samples.WIPER),
                              ("b", samples.RIGHT_FOR_EVER), ("zz", ENDS)):
            book.put(name, machine)
        for name, paper in (("z", ("ring", 0, 2)), ("m", ("ends", 5)), ("b", ("drift", 0, 1)), ("a", ("ends", 0))):
            book.paper(name, paper)
        self.assertEqual(book.names(), ["a", "ab", "b", "m", "z", "zz"])
        self.assertEqual(book.ended(), [("a", 0), ("m", 5)])
        self.assertEqual(book.never(), ["b", "z"])
        self.assertEqual(book.unsettled(), ["ab", "zz"])
        self.assertEqual(book.machine("ab"), samples.WIPER)
        self.assertEqual(book.paper_of("b"), ("drift", 0, 1))
        self.assertIsNone(book.paper_of("zz"))

    def test_what_was_handed_in_is_changed_behind(self):
        book = Book()
        for at, (machine, paper, wrong) in enumerate(PAPERS):
            mine, sheet = copy.deepcopy(machine), copy.deepcopy(paper)
            book.put(NAMES[at], mine)
            book.paper(NAMES[at], sheet)
            self.assertEqual((mine, sheet), (machine, paper))
            samples.spoil(mine)
            samples.spoil(sheet)
        self.check(book)

    def check(self, book):
        """The book tells the machines and papers as they were handed in, also behind back and again."""
        for at, (machine, paper, wrong) in enumerate(PAPERS):
            self.assertEqual(book.machine(NAMES[at]), machine)
            self.assertEqual(book.paper_of(NAMES[at]), paper)
        for _ in range(len(PAPERS)):
            book.back()
        for _ in range(len(PAPERS)):
            book.again()
        for at, (machine, paper, wrong) in enumerate(PAPERS):
            self.assertEqual(book.machine(NAMES[at]), machine)
            self.assertEqual(book.paper_of(NAMES[at]), paper)

    def test_what_was_told_is_changed_behind(self):
        book = filled_book()
        before = copy.deepcopy(tells(book))
        for _ in range(2):
            told = tells(book)
            self.assertFalse(samples.has_list_twice(told))
            self.assertFalse(samples.share_a_list(told, tells(book)))
            samples.spoil(told)
            self.assertEqual(tells(book), before)
        self.check(book)

    def test_what_was_told_stays_whatever_is_done(self):
        book = filled_book()
        told = tells(book)
        kept = copy.deepcopy(told)
        for name in book.names():
            book.out(name)
        book.put("new", ENDS)
        for _ in range(3):
            book.back()
        self.assertEqual(told, kept)

    def test_one_list_handed_in_at_several_places(self):
        row = [(1, 1, 0), (1, 1, 1)]
        words = [(0,), (1,)]
        machine = [row, row]
        book = Book()
        book.put("a", machine)
        book.put("b", machine)
        paper = least_shut(machine, 1)
        book.paper("a", ("shut", 1, words, words, [(left, row, sign, right) for left in words for row in (0, 1)
                                                   for sign in (0, 1) for right in words]))
        book.paper("b", paper)
        self.assertFalse(samples.has_list_twice(tells(book)))
        self.assertEqual(book.machine("a"), machine)
        self.assertEqual(book.paper_of("a")[2:4], ([(0,), (1,)], [(0,), (1,)]))


class Twins(unittest.TestCase):

    def test_deeds_of_the_one_change_nothing_of_the_other(self):
        book = filled_book()
        book.back()
        twin = book.twin()
        before = tells(book)
        self.assertIsInstance(twin, Book)
        self.assertEqual(tells(twin), before)
        for one, other in ((book, twin), (twin, book)):
            here = tells(other)
            one.out("a")
            one.put("new", ENDS)
            one.paper("new", ("ends", 5))
            one.back()
            one.back()
            one.again()
            self.assertEqual(tells(other), here)

    def test_back_and_again_of_what_was_done_before(self):
        book = Book()
        for name in ("a", "b", "c", "d"):
            book.put(name, ENDS)
        book.back()
        book.back()
        twin = book.twin()
        book.back()
        book.back()
        twin.again()
        self.assertEqual((book.names(), twin.names()), ([], ["a", "b", "c"]))
        twin.again()
        with self.assertRaises(NoDeed):
            twin.again()
        book.put("z", ENDS)
        with self.assertRaises(NoDeed):
            book.again()
        for names in (["a", "b", "c"], ["a", "b"], ["a"], []):
            twin.back()
            self.assertEqual(twin.names(), names)
        with self.assertRaises(NoDeed):
            twin.back()
        for names in (["a"], ["a", "b"], ["a", "b", "c"], ["a", "b", "c", "d"]):
            twin.again()
            self.assertEqual(twin.names(), names)

    def test_two_twins(self):
        book = filled_book()
        before = tells(book)
        one, other = book.twin(), book.twin()
        one.out("a")
        self.assertEqual((tells(book), tells(other)), (before, before))
        self.assertFalse(samples.share_a_list(tells(book), tells(other)))


class ManyDeeds(unittest.TestCase):

    def draw(self, chance):
        """A deed with its things, now and then a wrong one."""
        deed = chance.choice(["put", "put", "put", "out", "paper", "paper", "paper", "back", "back", "again", "again"])
        if deed in ("back", "again"):
            return (deed,)
        name = chance.choice(NAMES + NO_NAMES[:3])
        machine, paper, wrong = chance.choice(PAPERS)
        if deed == "put":
            return (deed, name, NO_MACHINE if chance.random() < 0.1 else machine)
        if deed == "out":
            return (deed, name)
        return (deed, name, chance.choice([paper, paper, paper] + wrong))

    def test_against_deeds_done_anew(self):
        chance = random.Random(13)
        books = [(Book(), PlainBook())]
        seen = {}
        for at in range(1500):
            book, plain = chance.choice(books)
            deed, *things = self.draw(chance)
            refusal = plain.do(deed, *things)
            seen[(deed, refusal)] = True
            if refusal is None:
                self.assertIsNone(getattr(book, deed)(*things))
            else:
                with self.assertRaises(refusal):
                    getattr(book, deed)(*things)
            if at % 100 == 50 and len(books) < 4:
                books.append((book.twin(), plain.twin()))
            if at % 500 == 499:
                books = [(Book(), PlainBook())]
            for book, plain in books:
                self.assertEqual(tells(book), plain.tells())
        wanted = [("put", None), ("put", NoName), ("put", Twice), ("put", NoMachine), ("out", None), ("out", NoSuch),
                  ("paper", None), ("paper", NoSuch), ("paper", NoPaper), ("back", None), ("again", None),
                  ("again", NoDeed)]
        self.assertEqual([pair for pair in wanted if pair not in seen], [])


class TheWhole(unittest.TestCase):

    def test_what_a_book_tells_of_its_machines_is_so(self):
        machines = [machine for machine, paper, wrong in PAPERS] + [test_sorting.BACK[0][1], test_sorting.SHUT[3][1]]
        machines += [machine for steps, machine in samples.ENDING if steps in (20, 37, 1000)]
        papers = [paper for machine, paper, wrong in PAPERS] + [other for _, _, wrong in PAPERS for other in wrong]
        papers += [("ends", 20), ("ends", 37), ("ends", 1000), ("back", 6), ("drift", 1, 3), ("ring", 2, 4)]
        papers += [least_shut(test_sorting.SHUT[3][1], 2)]
        taken = 0
        for machine in machines:
            trail, ended = samples.plain_walk(machine, 1000)
            for paper in papers:
                book = Book()
                book.put("a", machine)
                try:
                    book.paper("a", paper)
                except NoPaper:
                    continue
                taken += 1
                self.assertEqual(book.ended(), [("a", len(trail) - 1)] if ended else [])
                self.assertEqual(book.never(), [] if ended else ["a"])
        self.assertGreater(taken, 12)


if __name__ == "__main__":
    unittest.main()
