"""Points 26 and 27: the desk."""

import random
import unittest

import samples
import test_rings
import test_sorting
from endnever.alike import are_alike, groups, least_form
from endnever.blocks import by_blocks
from endnever.books import Book
from endnever.census import census, fullest, greatest
from endnever.desk import Desk
from endnever.errors import Full, MillError, NoDeed, NoLine, NoName, NoSize, NoSuch, NoText, Twice
from endnever.runs import run
from endnever.sorting import sorted_as
from endnever.strides import by_strides
from endnever.texts import show_machine, show_paper, show_setup
from endnever.tree import node_of

ENDS = "1RB,1LB 1LA,---"
TURNED = "1LB,1RB 1RA,---"
GOES_ON = "1RA,---"
FRO = "0RB,--- 0LA,---"
EMPTY = "---,---"
BIG = "1RB,0LA,--- 2LB,2RA,1LA"
OPEN = show_machine(test_sorting.OPEN[0])
SWEEPER = show_machine(test_rings.SWEEPER)

# Lines of which there are none, whatever the desk's book keeps.
NO_LINES = """
x,, ,  ,put,put a,put a ,put  a,Put a ---,put a b  c,out,out ,out a b,out  a, out a,out a ,back a,back ,Back, back,
again 1,again ,show,show ,show a b,show  a,run,run a,run a ,run a 01,run a 00,run a 000,run a 501,run a -1,run a -0,
run a +1,run a 1.,run a 1.0,run a x,run a 1x,run a 1 2,run  a 1,run a  1,run a 1 ,run 1 a,run a 1_0,run a 1e2,sort,
sort ,sort a b,papers x,papers ,paper,like,like a,like a ,like a b c,like  a b,like a  b,least,least a b,groups a,
groups ,group,node,node a b,census,census 1,census 1 ,census 1 2 3,census 100 2,census 1 100,census 01 2,census 1 02,
census -1 2,census 1 -2,census a b,census  1 2,greatest,greatest 1,greatest 1 2 3,greatest 100 2,greatest 1 2 ,
fullest,fullest 1,fullest 1 2 3,fullest 1 100,fullest 00 2,blocks,blocks a,blocks a 2,blocks a 2 ,blocks a 0 1,
blocks a 5 1,blocks a 2 301,blocks a 2 500,blocks a 02 3,blocks a 2 03,blocks a -1 3,blocks a 2 -3,blocks a 2 3 4,
blocks a x 3,strides,strides a,strides a ,strides a 501,strides a 05,strides a -1,strides a 1 2,strides 5 a,say,twin,
names,quit,none,ok,run a 999999999,run a 1000000000,a put ---,a,PAPERS,papers papers
""".replace("\n", "").split(",")
NO_LINES += ["\n", "back\n", "\nback", "papers\n", "back\nback", "run a 5\n", "census 1\n2", "put a ---,---  ---,---",
             "put a ---,--- ", " put a ---,---", "put  a ---,---", "put a  ---,---", "put\na ---,---",
             "run a " + "9" * 5000, "run a 0" + "9" * 5000, "blocks a " + "1" * 5000 + " 1",
             "census " + "0" * 5000 + " 2"]


def desk_with(**machines):
    """A desk with machines by their names, handed in as texts."""
    desk = Desk()
    for name, text in machines.items():
        desk.say(f"put {name} {text}")
    return desk


def tells(desk):
    """All that a desk's book can be asked by lines that change nothing; the names stand in groups."""
    names = sorted(desk.say("groups").replace(";", "").split(" "))
    shown = [] if names == ["none"] else [desk.say(f"show {name}") for name in names]
    return (names, shown, desk.say("papers"))


class Desks(unittest.TestCase):

    def refuse(self, refusal, desk, line):
        before = tells(desk)
        with self.assertRaises(refusal, msg=repr(line)):
            desk.say(line)
        self.assertEqual(tells(desk), before)


class Deeds(Desks):

    def test_put_and_show(self):
        desk = Desk()
        for name, text in (("a", ENDS), ("abcdefgh", EMPTY), ("z", BIG), ("zz", OPEN)):
            self.assertEqual(desk.say(f"put {name} {text}"), "ok")
            self.assertEqual(desk.say(f"show {name}"), text)
        self.assertEqual(tells(desk), (["a", "abcdefgh", "z", "zz"], [ENDS, EMPTY, BIG, OPEN], "none"))

    def test_out_back_and_again(self):
        desk = desk_with(a=ENDS, b=FRO)
        self.assertEqual(desk.say("out a"), "ok")
        self.assertEqual(tells(desk)[0], ["b"])
        self.assertEqual(desk.say("back"), "ok")
        self.assertEqual(tells(desk)[0], ["a", "b"])
        self.assertEqual(desk.say("again"), "ok")
        self.assertEqual(tells(desk)[0], ["b"])
        self.refuse(NoDeed, desk, "again")
        for names in (["a", "b"], ["a"], ["none"]):
            desk.say("back")
            self.assertEqual(tells(desk)[0], names)
        self.refuse(NoDeed, desk, "back")

    def test_deeds_without_any(self):
        self.refuse(NoDeed, Desk(), "back")
        self.refuse(NoDeed, Desk(), "again")

    def test_put_refusals_in_order(self):
        desk = desk_with(a=ENDS)
        for text in ("---", "x", "---,--", "1RC,---", "---,--- ---", "2RA,---", "1RA,---\n", "a", "1ra,---", "1RA;---"):
            for name in ("b", "a", "A", "toolongname", "a1", "a\n"):
                self.refuse(NoText, desk, f"put {name} {text}")
        for name in ("A", "abcdefghi", "a1", "-", "a\nb", "---,---", "~"):
            self.refuse(NoName, desk, f"put {name} {ENDS}")
        self.refuse(Twice, desk, f"put a {GOES_ON}")
        for at in range(11):
            desk.say(f"put n{'abcdefghijk'[at]} {EMPTY}")
        self.refuse(NoText, desk, "put new ---")
        self.refuse(NoName, desk, f"put New {ENDS}")
        self.refuse(Twice, desk, f"put a {ENDS}")
        self.refuse(Full, desk, f"put new {ENDS}")

    def test_names_like_the_first_words(self):
        desk = desk_with(put=ENDS, back=FRO, none=EMPTY)
        self.assertEqual(desk.say("show put"), ENDS)
        self.assertEqual(desk.say("show back"), FRO)
        self.assertEqual(desk.say("groups"), "back; none; put")


class Lines(Desks):

    def test_lines_of_which_there_are_none(self):
        for desk in (Desk(), desk_with(a=ENDS), desk_with(a=ENDS, b=FRO, c=GOES_ON)):
            for line in NO_LINES:
                self.refuse(NoLine, desk, line)

    def test_they_forget_nothing(self):
        desk = desk_with(a=ENDS, b=FRO)
        desk.say("back")
        for line in NO_LINES:
            with self.assertRaises(NoLine):
                desk.say(line)
        self.assertEqual(desk.say("again"), "ok")
        self.assertEqual(tells(desk)[0], ["a", "b"])

    def test_the_bounds_of_numbers(self):
        desk = desk_with(a=GOES_ON)
        for line in ("run a 0", "run a 500", "strides a 0", "strides a 500", "blocks a 1 0", "blocks a 4 300",
                     "run a 9", "run a 10", "run a 100"):
            self.assertTrue(desk.say(line))
        for line in ("census 0 0", "census 99 99", "greatest 0 99", "fullest 99 0", "census 10 2"):
            self.refuse(NoSize, desk, line)

    def test_names_that_there_are_none_of(self):
        for desk in (Desk(), desk_with(a=ENDS)):
            for name in ("b", "B", "b1", "abcdefghi", "-", "a\n", "\n", "aa", "---,---"):
                for line in ("out NAME", "show NAME", "run NAME 5", "sort NAME", "like NAME NAME", "least NAME",
                             "node NAME", "blocks NAME 2 5", "strides NAME 5"):
                    self.refuse(NoSuch, desk, line.replace("NAME", name))

    def test_like_names_a_first_and_b_behind(self):
        desk = desk_with(a=ENDS)
        for line in ("like a b", "like b a", "like b c"):
            self.refuse(NoSuch, desk, line)


class Answers(Desks):

    def test_run(self):
        desk = desk_with(a=ENDS, b=GOES_ON)
        self.assertEqual(desk.say("run a 0"), "on 0 A 0")
        self.assertEqual(desk.say("run a 2"), "on 2 A 0 0=1 1=1")
        self.assertEqual(desk.say("run a 4"), "on 4 A -2 -1=1 0=1 1=1")
        for most in (5, 6, 500):
            self.assertEqual(desk.say(f"run a {most}"), "ends 5 B -1 -2=1 -1=1 0=1 1=1")
        self.assertEqual(desk.say("run b 3"), "on 3 A 3 0=1 1=1 2=1")

    def test_sort_is_a_deed(self):
        desk = desk_with(a=ENDS, b=FRO)
        self.assertEqual(desk.say("sort a"), "ends 5")
        self.assertEqual(desk.say("papers"), "a ends 5")
        self.assertEqual(desk.say("sort b"), "ring 0 2")
        self.assertEqual(desk.say("papers"), "a ends 5; b ring 0 2")
        desk.say("back")
        self.assertEqual(desk.say("papers"), "a ends 5")
        desk.say("again")
        self.assertEqual(desk.say("papers"), "a ends 5; b ring 0 2")
        desk.say("sort a")
        self.refuse(NoDeed, desk, "again")
        desk.say("back")
        self.assertEqual(desk.say("papers"), "a ends 5; b ring 0 2")
        desk.say("out a")
        self.assertEqual(desk.say("papers"), "b ring 0 2")
        desk.say("back")
        self.assertEqual(desk.say("papers"), "a ends 5; b ring 0 2")
        for told in ("a ends 5", "none"):
            desk.say("back")
            self.assertEqual(desk.say("papers"), told)
        desk.say("back")
        self.assertEqual(tells(desk)[0], ["a"])

    def test_sort_of_what_is_open_is_none(self):
        desk = desk_with(a=OPEN, b=ENDS)
        desk.say("sort b")
        desk.say("back")
        self.assertEqual(desk.say("sort a"), "open")
        self.assertEqual(desk.say("papers"), "none")
        # What was taken back is not forgotten.
        self.assertEqual(desk.say("again"), "ok")
        self.assertEqual(desk.say("papers"), "b ends 5")
        self.assertEqual(desk.say("sort a"), "open")
        desk.say("back")
        self.assertEqual(desk.say("papers"), "none")

    def test_the_texts_of_all_papers(self):
        back = show_machine(test_sorting.BACK[1][1])
        desk = desk_with(e=EMPTY, d=GOES_ON, s=SWEEPER, r=FRO, b=back, o=OPEN)
        self.assertEqual(desk.say("papers"), "none")
        self.assertEqual(desk.say("sort e"), "ends 0")
        self.assertEqual(desk.say("sort d").split(" ")[0], "drift")
        kind, width, lefts, rights, middles = sorted_as(test_rings.SWEEPER)
        shut = f"shut {width} {len(lefts)} {len(rights)} {len(middles)}"
        self.assertEqual(desk.say("sort s"), shut)
        self.assertEqual(desk.say("sort b"), "back 7")
        self.assertEqual(desk.say("sort o"), "open")
        drift = desk.say("sort d")
        self.assertEqual(desk.say("papers"), f"b back 7; d {drift}; e ends 0; s {shut}")

    def test_papers_and_groups_without_any(self):
        self.assertEqual(Desk().say("papers"), "none")
        self.assertEqual(Desk().say("groups"), "none")
        self.assertEqual(desk_with(a=ENDS).say("papers"), "none")
        self.assertEqual(desk_with(a=ENDS).say("groups"), "a")

    def test_like_least_and_groups(self):
        desk = desk_with(d=ENDS, b=FRO, c=TURNED, a=GOES_ON, e=EMPTY, f=FRO)
        self.assertEqual(desk.say("like d c"), "yes")
        self.assertEqual(desk.say("like c d"), "yes")
        self.assertEqual(desk.say("like d d"), "yes")
        self.assertEqual(desk.say("like d b"), "no")
        self.assertEqual(desk.say("like a b"), "no")
        self.assertEqual(desk.say("least d"), TURNED)
        self.assertEqual(desk.say("least c"), TURNED)
        self.assertEqual(desk.say("least a"), "1LA,---")
        self.assertEqual(desk.say("groups"), "a; b f; c d; e")
        desk.say("out a")
        self.assertEqual(desk.say("groups"), "b f; c d; e")

    def test_node(self):
        desk = desk_with(a=ENDS, b=TURNED, c=EMPTY, d="1LA,---", e="0RB,--- 0LA,---", f="3LA,---,1RA,---", g=BIG)
        self.assertEqual(desk.say("node a"), "95 AB 01 right")
        self.assertEqual(desk.say("node b"), "95 AB 01 left")
        self.assertEqual(desk.say("node c"), "0 A 0 right")
        self.assertEqual(desk.say("node d"), "2 A 01 left")
        self.assertEqual(desk.say("node e"), "3 AB 0 right")
        self.assertEqual(desk.say("node f"), "2 A 03 left")
        self.refuse(NoSize, desk, "node g")
        self.refuse(NoSuch, desk, "node h")

    def test_census_greatest_and_fullest(self):
        desk = Desk()
        self.assertEqual(desk.say("census 1 2"), "25 0 5 never 20")
        self.assertEqual(desk.say("census 2 2"), "6561 0 729 1 324 2 72 3 26 4 4 5 10 never 5396")
        self.assertEqual(desk.say("greatest 1 2"), "0; ---,---")
        self.assertEqual(desk.say("fullest 1 3"), "0; ---,---,---")
        self.assertEqual(desk.say("fullest 2 2"), "4; 1RB,1LB 1LA,---")
        self.assertEqual(desk.say("greatest 2 2"), "5; 0RB,--- 1LA,1RB; 1RB,--- 0LB,1LA; 1RB,0LB 1LA,---; "
                                                   "1RB,1LB 1LA,---; 1RB,--- 1LB,1LA")
        for ask in ("census", "greatest", "fullest"):
            for size in ("0 0", "0 2", "1 0", "1 1", "4 1", "1 5", "5 2", "2 3", "3 2", "4 4", "99 99"):
                self.refuse(NoSize, desk, f"{ask} {size}")

    def test_blocks_and_strides(self):
        desk = desk_with(a=ENDS, b=GOES_ON, c=FRO, d="1LA,---")
        self.assertEqual(desk.say("blocks a 2 300"), "end 5 B -1")
        self.assertEqual(desk.say("blocks a 2 1"), "on 3 B -1")
        self.assertEqual(desk.say("blocks a 4 0"), "on 0 A 0")
        self.assertEqual(desk.say("blocks b 3 100"), "on 300 A 300")
        self.assertEqual(desk.say("blocks c 2 300"), "stay 0 A 0")
        self.assertEqual(desk.say("blocks d 3 2"), "on 4 A -4")
        self.assertEqual(desk.say("strides a 500"), "end 5 B")
        self.assertEqual(desk.say("strides a 2"), "on 2 A")
        self.assertEqual(desk.say("strides a 0"), "on 0 A")
        self.assertEqual(desk.say("strides b 0"), "never 0 A")
        self.assertEqual(desk.say("strides c 499"), "on 499 B")

    def test_asking_is_no_deed(self):
        desk = desk_with(a=ENDS, b=FRO)
        desk.say("back")
        for line in ("show a", "run a 5", "papers", "like a a", "least a", "groups", "node a", "census 1 2",
                     "greatest 1 2", "fullest 1 2", "blocks a 2 5", "strides a 5"):
            self.assertEqual(desk.say(line), desk.say(line))
        self.assertEqual(desk.say("again"), "ok")
        self.assertEqual(tells(desk)[0], ["a", "b"])

    def test_two_desks_have_two_books(self):
        one, other = desk_with(a=ENDS), Desk()
        self.assertEqual(tells(other)[0], ["none"])
        other.say(f"put a {FRO}")
        self.assertEqual((one.say("show a"), other.say("show a")), (ENDS, FRO))


class AgainstABook(Desks):
    """Each answer is what the book and the functions tell, written as point 26 says."""

    def wanted(self, book, word, things):
        """The answer to a line, of a book that is handed the same deeds."""
        machine = book.machine(things[0]) if things and isinstance(things[0], str) and word != "put" else None
        if word == "put":
            book.put(things[0], things[1])
            return "ok"
        if word in ("out", "back", "again"):
            getattr(book, word)(*things)
            return "ok"
        if word == "show":
            return show_machine(machine)
        if word == "run":
            told = run(machine, things[1])
            return " ".join([told[0], str(told[1]), show_setup(told[2])])
        if word == "sort":
            paper = sorted_as(machine)
            if paper[0] != "open":
                book.paper(things[0], paper)
            return show_paper(paper)
        if word == "papers":
            told = [name + " " + show_paper(book.paper_of(name)) for name in book.names() if book.paper_of(name)]
            return "; ".join(told) or "none"
        if word == "like":
            return "yes" if are_alike(machine, book.machine(things[1])) else "no"
        if word == "least":
            return show_machine(least_form(machine))
        if word == "groups":
            names = book.names()
            told = groups([book.machine(name) for name in names])
            return "; ".join(" ".join(names[at] for at in group) for group in told) or "none"
        return self.wanted_of_more(machine, word, things)

    def wanted_of_more(self, machine, word, things):
        if word == "node":
            place, rows, signs, turned = node_of(machine)
            letters = "".join("ABCD"[row] for row in rows)
            return f"{place} {letters} {''.join(map(str, signs))} {'left' if turned else 'right'}"
        if word == "census":
            many, ends, never = census(*things)
            return " ".join(map(str, [many] + [number for pair in ends for number in pair] + ["never", never]))
        if word in ("greatest", "fullest"):
            most, machines = (greatest if word == "greatest" else fullest)(*things)
            return str(most) + "".join("; " + show_machine(one) for one in machines)
        if word == "blocks":
            told = by_blocks(machine, things[1], things[2])
            return f"{told[0]} {told[1]} {'ABCD'[told[2]]} {told[3]}"
        told = by_strides(machine, 0, ([], 0, []), things[1])
        return f"{told[0]} {told[1]} {'ABCD'[told[2]]}"

    def draw(self, chance, machines):
        """A line's first word, and the things behind it."""
        words = ["put"] * 8 + ["out"] * 2 + ["sort"] * 5 + ["back"] * 3 + ["again"] * 3
        word = chance.choice(words + ["show", "run", "papers", "like", "least", "groups", "node", "census", "greatest",
                                      "fullest", "blocks", "strides"])
        if word in ("back", "again", "papers", "groups"):
            return word, []
        if word in ("census", "greatest", "fullest"):
            return word, [chance.choice((0, 1, 1, 2)), chance.choice((1, 2, 2, 3, 4))]
        names = ["a", "b", "c", "d", "e", "f", "g", "h", "i", "j", "k", "l", "m", "Z"]
        name = chance.choice(names)
        if word == "put":
            return word, [name, chance.choice(machines)]
        if word == "like":
            return word, [name, chance.choice(names)]
        if word in ("run", "strides"):
            return word, [name, chance.choice((0, 1, 5, 30, 500))]
        if word == "blocks":
            return word, [name, chance.choice((1, 2, 3, 4)), chance.choice((0, 1, 7, 300))]
        return word, [name]

    def test_many_lines(self):
        chance = random.Random(26)
        machines = [machine for steps, machine in samples.ENDING[:8]] + samples.NEVER + [test_rings.SWEEPER]
        machines += test_sorting.OPEN + samples.mixed(2, 2, 6) + [machine for depth, machine in test_sorting.BACK]
        machines += [machine for late, kind, machine in test_sorting.SOON] + samples.mixed(1, 3, 3)
        desk, book = Desk(), Book()
        seen = {}
        for _ in range(1200):
            word, things = self.draw(chance, machines)
            words = [show_machine(thing) if isinstance(thing, list) else str(thing) for thing in things]
            line = " ".join([word] + words)
            try:
                wanted = self.wanted(book, word, things)
            except MillError as error:
                with self.assertRaises(error.__class__):
                    desk.say(line)
                seen[(word, error.__class__)] = True
            else:
                self.assertEqual(desk.say(line), wanted)
                seen[word] = True
            self.assertEqual(desk.say("papers"), self.wanted(book, "papers", []))
        self.assertEqual(len([word for word in seen if isinstance(word, str)]), 17)
        for pair in (("put", NoName), ("put", Twice), ("node", NoSize), ("again", NoDeed), ("sort", NoSuch)):
            self.assertIn(pair, seen)


if __name__ == "__main__":
    unittest.main()
