"""Points 7 and 8: machines, setups and papers as texts, and such texts read."""

import re
import unittest

import samples
from endnever.errors import NoMachine, NoText
from endnever.texts import read_machine, read_setup, show_machine, show_paper, show_setup

ENTRY = r"(---|[0-3][LR][A-D])"
NUMBER = r"(0|-?[1-9][0-9]{0,8})"

MACHINES = [
    ("---,---", [[(), ()]]),
    ("0LA,1RA", [[(0, -1, 0), (1, 1, 0)]]),
    ("1RA,---", [[(1, 1, 0), ()]]),
    ("2LA,---,0RA", [[(2, -1, 0), (), (0, 1, 0)]]),
    ("3LA,2RA,1LA,0RA", [[(3, -1, 0), (2, 1, 0), (1, -1, 0), (0, 1, 0)]]),
    ("1RB,1LB 1LA,---", [[(1, 1, 1), (1, -1, 1)], [(1, -1, 0), ()]]),
    ("1RB,2LB,--- 2LA,2RB,1LB", [[(1, 1, 1), (2, -1, 1), ()], [(2, -1, 0), (2, 1, 1), (1, -1, 1)]]),
    ("---,---,---,--- 0LB,3RA,---,1LB", [[(), (), (), ()], [(0, -1, 1), (3, 1, 0), (), (1, -1, 1)]]),
    ("1RB,--- 1LB,0RC 1LC,1LA", [[(1, 1, 1), ()], [(1, -1, 1), (0, 1, 2)], [(1, -1, 2), (1, -1, 0)]]),
    ("---,1LC,2RB 0LA,---,--- ---,---,2LC",
     [[(), (1, -1, 2), (2, 1, 1)], [(0, -1, 0), (), ()], [(), (), (2, -1, 2)]]),
    ("0LA,0LA,0LA,0LA 0RB,1RB,2RB,3RB 3LC,2LC,1LC,0LC",
     [[(0, -1, 0)] * 4, [(0, 1, 1), (1, 1, 1), (2, 1, 1), (3, 1, 1)],
      [(3, -1, 2), (2, -1, 2), (1, -1, 2), (0, -1, 2)]]),
    ("1RB,1LB 1LA,0LC ---,1LD 1RD,0RA",
     [[(1, 1, 1), (1, -1, 1)], [(1, -1, 0), (0, -1, 2)], [(), (1, -1, 3)], [(1, 1, 3), (0, 1, 0)]]),
    ("---,---,--- ---,2RD,--- ---,---,--- 1LA,---,0RC",
     [[(), (), ()], [(), (2, 1, 3), ()], [(), (), ()], [(1, -1, 0), (), (0, 1, 2)]]),
    ("3RD,3LD,0RA,0LA ---,---,---,--- 1RC,1LB,2RC,2LB 0LD,1LC,2LB,3LA",
     [[(3, 1, 3), (3, -1, 3), (0, 1, 0), (0, -1, 0)], [(), (), (), ()],
      [(1, 1, 2), (1, -1, 1), (2, 1, 2), (2, -1, 1)], [(0, -1, 3), (1, -1, 2), (2, -1, 1), (3, -1, 0)]]),
]

FORTY = [(3 * at - 60, 1 + at % 3) for at in range(40)]
SETUPS = [
    ("A 0", (0, 0, [])),
    ("B 7", (1, 7, [])),
    ("D -1", (3, -1, [])),
    ("C 0 0=1", (2, 0, [(0, 1)])),
    ("A -3 -2=1 -1=2 0=3", (0, -3, [(-2, 1), (-1, 2), (0, 3)])),
    ("B 12 -10=3 -9=3 9=1 10=1", (1, 12, [(-10, 3), (-9, 3), (9, 1), (10, 1)])),
    ("D 999999999 -999999999=1 999999999=2", (3, 999999999, [(-999999999, 1), (999999999, 2)])),
    ("C -999999999 -100000000=1 100000000=3", (2, -999999999, [(-100000000, 1), (100000000, 3)])),
    ("A 5 " + " ".join(f"{place}={sign}" for place, sign in FORTY), (0, 5, FORTY)),
]


def is_text_of_machine(text):
    """Whether a text is that of a machine, told by a pattern."""
    if not re.fullmatch(f"{ENTRY}(,{ENTRY})*( {ENTRY}(,{ENTRY})*)*", text):
        return False
    rows = text.split(" ")
    signs = {row.count(",") + 1 for row in rows}
    if len(rows) > 4 or signs not in ({2}, {3}, {4}):
        return False
    letters = "ABCD"[:len(rows)]
    figures = "0123"[:min(signs)]
    return all(letter in letters + "LR," + figures + " -" for letter in text)


def is_text_of_setup(text):
    """Whether a text is that of a setup, told by a pattern."""
    if not re.fullmatch(f"[A-D] {NUMBER}( {NUMBER}=[123])*", text):
        return False
    places = [int(word.split("=")[0]) for word in text.split(" ")[2:]]
    return len(places) <= 40 and places == sorted(set(places))


def near(text):
    """All texts that come of one by a sign put in, taken out or exchanged."""
    signs = " ,-=+_0123456789ABCDELRabdlr\n"
    for at in range(len(text) + 1):
        yield text[:at] + text[at + 1:]
        for sign in signs:
            yield text[:at] + sign + text[at:]
            yield text[:at] + sign + text[at + 1:]


class Shown(unittest.TestCase):

    def test_machines_written_out(self):
        self.assertEqual({(len(machine), len(machine[0])) for _, machine in MACHINES}, set(samples.sizes()))
        for text, machine in MACHINES:
            self.assertEqual(show_machine(machine), text)

    def test_each_entry_of_the_greatest_size(self):
        for sign in range(4):
            for way, letter in ((-1, "L"), (1, "R")):
                for row in range(4):
                    machine = samples.changed(samples.filled(4, 4), 2, 1, (sign, way, row))
                    entry = str(sign) + letter + "ABCD"[row]
                    none = "---,---,---,---"
                    self.assertEqual(show_machine(machine), f"{none} {none} ---,{entry},---,--- {none}")

    def test_what_is_no_machine_is_refused(self):
        for machine in samples.no_machines():
            with self.assertRaises(NoMachine):
                show_machine(machine)

    def test_setups_written_out(self):
        for text, setup in SETUPS:
            self.assertEqual(show_setup(setup), text)

    def test_setups_of_up_to_thirty_figures(self):
        far = 10 ** 30 - 1
        figures = "9" * 30
        self.assertEqual(show_setup((3, far, [])), f"D {figures}")
        self.assertEqual(show_setup((0, -far, [(-far, 1), (far, 3)])), f"A -{figures} -{figures}=1 {figures}=3")
        self.assertEqual(show_setup((1, 10 ** 29, [(10 ** 10, 2)])), "B 1" + "0" * 29 + " 10000000000=2")

    def test_papers_of_each_kind(self):
        for paper, text in [
                (("ends", 0), "ends 0"), (("ends", 1), "ends 1"), (("ends", 1000), "ends 1000"),
                (("ring", 0, 2), "ring 0 2"), (("ring", 66, 88), "ring 66 88"), (("ring", 0, 1000), "ring 0 1000"),
                (("drift", 0, 1), "drift 0 1"), (("drift", 94, 124), "drift 94 124"),
                (("back", 1), "back 1"), (("back", 8), "back 8"), (("open",), "open")]:
            self.assertEqual(show_paper(paper), text)

    def test_papers_that_show_nothing(self):
        for paper, text in [
                (("ring", 5, 5), "ring 5 5"), (("ring", 7, 3), "ring 7 3"), (("drift", 1000, 0), "drift 1000 0"),
                (("back", 0), "back 0"), (("back", 9), "back 9"), (("back", 1000), "back 1000"),
                (("shut", 0, [], [], []), "shut 0 0 0 0"), (("shut", 1000, [], [], []), "shut 1000 0 0 0"),
                (("shut", 5, [(0,)], [(9, 9), ()], []), "shut 5 1 2 0")]:
            self.assertEqual(show_paper(paper), text)

    def test_shut_papers_count_what_stands_twice_twice(self):
        middle = ((0,), 0, 0, (0,))
        self.assertEqual(show_paper(("shut", 1, [(0,)], [(0,), (1,)], [middle])), "shut 1 1 2 1")
        paper = ("shut", 1, [(0,), (0,), (0,)], [(0,), (1,)], [middle, middle, middle, middle])
        self.assertEqual(show_paper(paper), "shut 1 3 2 4")
        self.assertEqual(paper, ("shut", 1, [(0,), (0,), (0,)], [(0,), (1,)], [middle, middle, middle, middle]))
        words = [(0,) * 4] * 120
        self.assertEqual(show_paper(("shut", 4, words, [], [middle] * 300)), "shut 4 120 0 300")


class MachinesRead(unittest.TestCase):

    def refused(self, text):
        with self.assertRaises(NoText, msg=repr(text)):
            read_machine(text)

    def test_written_out(self):
        for text, machine in MACHINES:
            self.assertEqual(read_machine(text), machine)

    def test_read_back_to_what_it_was_made_of(self):
        for rows, signs in samples.sizes():
            for machine in [samples.filled(rows, signs)] + samples.mixed(rows, signs, 40):
                self.assertEqual(read_machine(show_machine(machine)), machine)

    def test_the_rows_are_no_one_list(self):
        for text in ("---,--- ---,---", "1RA,1RA 1RA,1RA 1RA,1RA", "---,---,---,--- " * 3 + "---,---,---,---"):
            machine = read_machine(text)
            self.assertFalse(samples.has_list_twice(machine))
            self.assertFalse(samples.share_a_list(machine, read_machine(text)))
            samples.spoil(machine)
            self.assertEqual(show_machine(read_machine(text)), text)

    def test_texts_that_no_machine_has(self):
        for text in ["", " ", ",", "-", "--", "---", "----", "1RA", "1RA,", ",1RA", "1RA,--- ", " 1RA,---",
                     "1RB,---  1LA,---", "1RB,--- 1LA,--- ", "1RB,---\t1LA,---", "1RB,---\n1LA,---", "1RB,---\n",
                     "\n1RB,---", "1RB,--- ---", "1RB,--- ---,---,---", "---,---,---,---,---",
                     "---,---,---,---,--- ---,---,---,---,---",
                     "1RA;---", "1RA, ---", "1RA ,---", "1RA --- 1RA ---", "1RB,---,1LA,---,", "1RB,---,,1LA",
                     "1ra,---", "1Ra,---", "1rA,---", "A1R,---", "RA1,---", "1AR,---", "11A,---", "1RR,---", "1LL,---",
                     "1R0,---", "-1RA,---", "+1RA,---", "01RA,---", "1RAA,---", "1RRA,---", "1 RA,---", "()",
                     "[[(), ()]]",
                     "A 0", "open", "1RZ,---", "4RA,---,---,---", "9RA,---,---,---", "-RA,---", "1-A,---", "1R-,---"]:
            self.refused(text)

    def test_a_row_or_an_entry_too_few_or_too_many(self):
        for rows, signs in samples.sizes():
            row = ",".join(["---"] * signs)
            self.assertEqual(read_machine(" ".join([row] * rows)), samples.filled(rows, signs))
            if rows > 1:
                self.refused(" ".join([row] * (rows - 1) + [row + ",---"]))
                self.refused(" ".join([row] * (rows - 1) + [row[4:]]))
                self.refused(" ".join([row[4:]] + [row] * (rows - 1)))
        for signs in range(2, 5):
            self.refused(" ".join([",".join(["---"] * signs)] * 5))
        for rows in range(1, 5):
            self.refused(" ".join(["---"] * rows))
            self.refused(" ".join(["---,---,---,---,---"] * rows))

    def test_a_letter_or_figure_beyond_the_own_rows_or_signs(self):
        for rows, signs in samples.sizes():
            for row in range(4):
                for sign in range(4):
                    entry = f"{sign}L{'ABCD'[row]}"
                    words = ["---"] * signs
                    words[-1] = entry
                    text = " ".join([",".join(["---"] * signs)] * (rows - 1) + [",".join(words)])
                    if row < rows and sign < signs:
                        self.assertEqual(read_machine(text)[-1][-1], (sign, -1, row))
                    else:
                        self.refused(text)

    def test_hundreds_of_figures(self):
        for many in (9, 300, 4299, 4300, 5000, 100000):
            self.refused("1" * many)
            self.refused("1" * many + "RA,---")
            self.refused("0" * many + "1RA,---")
            self.refused("---,---," + "9" * many + "LA")
            self.refused(" ".join(["---,---"] * many))
            self.refused(",".join(["---"] * many))

    def test_all_texts_near_to_one(self):
        taken = 0
        for text, _ in MACHINES:
            for other in near(text):
                if is_text_of_machine(other):
                    taken += 1
                    self.assertEqual(show_machine(read_machine(other)), other)
                else:
                    self.refused(other)
        self.assertGreater(taken, 500)


class SetupsRead(unittest.TestCase):

    def refused(self, text):
        with self.assertRaises(NoText, msg=repr(text)):
            read_setup(text)

    def test_written_out(self):
        for text, setup in SETUPS:
            self.assertEqual(read_setup(text), setup)

    def test_read_back_to_what_it_was_made_of(self):
        for rows, signs in samples.sizes():
            for machine in samples.mixed(rows, signs, 5):
                for setup in samples.plain_walk(machine, 39)[0]:
                    self.assertEqual(read_setup(show_setup(setup)), setup)

    def test_the_strip_is_the_askers_own(self):
        for text in ("A 0", "A 0 1=1 2=2"):
            told = read_setup(text)
            samples.spoil(told)
            self.assertEqual(show_setup(read_setup(text)), text)
            self.assertFalse(samples.share_a_list(read_setup(text), read_setup(text)))

    def test_texts_that_no_setup_has(self):
        for text in ["", " ", "A", "A ", " A 0", "A  0", "A 0 ", "A 0  1=1", "A\t0", "A\n0", "A 0\n", "\nA 0",
                     "A 0\n1=1",
                     "AB 0", "E 0", "a 0", "0 0", "0 A", "A A", "A0", "A,0", "A 0,1=1", "A 0 1=1,2=1", " 0", "ABCD 0",
                     "BC 0", "A -0", "A +1", "A +0", "A 00", "A 01", "A -01", "A --1", "A -", "A 1-", "A - 1", "A 1_0",
                     "A 1.0", "A 0x1", "A 0 -0=1", "A 0 +1=1", "A 0 01=1", "A 0 -01=1", "A 0 00=1", "A 0 =1", "A 0 1=",
                     "A 0 1", "A 0 =", "A 0 1==1", "A 0 1=1=1", "A 0 1 =1", "A 0 1= 1", "A 0 1=0", "A 0 1=4", "A 0 1=9",
                     "A 0 1=-1", "A 0 1=+1", "A 0 1=01", "A 0 1=11", "A 0 1=12", "A 0 1=123", "A 0 a=1", "A 0 1=a",
                     "A=1", "A 0=1", "A 0 B 1", "1RA,---", "open"]:
            self.refused(text)

    def test_places_that_do_not_rise(self):
        for text in ["A 0 1=1 1=1", "A 0 1=1 1=2", "A 0 2=1 1=1", "A 0 -1=1 -2=1", "A 0 0=1 -1=1", "A 0 1=1 2=1 2=1",
                     "A 0 1=1 3=1 2=1", "A 0 10=1 9=1", "A 0 -9=1 -10=1", "A 0 1=1 2=1 3=1 0=1"]:
            self.refused(text)

    def test_nine_figures_and_more(self):
        self.assertEqual(read_setup("A 123456789 -123456789=1"), (0, 123456789, [(-123456789, 1)]))
        for many in (10, 11, 300, 4299, 4300, 4301, 5000, 100000):
            for figures in ("9" * many, "-" + "9" * many, "1" + "0" * (many - 1), "0" * many, "-" + "0" * many):
                self.refused("A " + figures)
                self.refused("A 0 " + figures + "=1")
            self.refused("A 0 1=" + "1" * many)

    def test_forty_tuples_and_more(self):
        for many in (0, 1, 39, 40):
            strip = [(place, 1 + place % 3) for place in range(many)]
            text = " ".join(["C -5"] + [f"{place}={sign}" for place, sign in strip])
            self.assertEqual(read_setup(text), (2, -5, strip))
        for many in (41, 42, 80, 1000):
            self.refused(" ".join(["C -5"] + [f"{place}=1" for place in range(many)]))

    def test_all_texts_near_to_one(self):
        taken = 0
        for text, _ in SETUPS:
            for other in near(text):
                if is_text_of_setup(other):
                    taken += 1
                    self.assertEqual(show_setup(read_setup(other)), other)
                else:
                    self.refused(other)
        self.assertGreater(taken, 1000)


if __name__ == "__main__":
    unittest.main()
