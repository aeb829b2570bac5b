"""Machines, setups and papers as texts, and the reading of such texts."""

from endnever.errors import NoText
from endnever.machines import MOST_ROWS, MOST_SIGNS, is_machine, must_machine

NO_ENTRY = "---"
WAYS = {-1: "L", 1: "R"}
ROWS = ("A", "B", "C", "D")
# A strip is told without noughts.
MARKS = ("1", "2", "3")
FIGURES = "0123456789"
MOST_FIGURES = 9
MOST_TUPLES = 40


def show_entry(entry):
    if entry == ():
        return NO_ENTRY
    sign, way, row = entry
    return f"{sign}{WAYS[way]}{ROWS[row]}"


def show_machine(machine):
    """The text of a machine: blanks between its rows, commas between their entries."""
    must_machine(machine)
    return " ".join([",".join([show_entry(entry) for entry in row]) for row in machine])


def show_setup(setup):
    """The text of a setup: its row's letter, its place, and place=sign for each tuple of its strip."""
    row, place, strip = setup
    return " ".join([ROWS[row], str(place)] + [f"{where}={sign}" for where, sign in strip])


def show_paper(paper):
    """The text of a paper: its kind and its numbers, of a shut paper's lists how many they have."""
    numbers = list(paper[1:])
    if paper[0] == "shut":
        kind, width, lefts, rights, middles = paper
        numbers = [width, len(lefts), len(rights), len(middles)]
    return " ".join([paper[0]] + [str(number) for number in numbers])


def entries_by_text():
    """Each entry of the greatest size, by its text: so a text is read just where an entry is written so."""
    told = [(sign, way, row) for sign in range(MOST_SIGNS) for way in WAYS for row in range(MOST_ROWS)]
    return {show_entry(entry): entry for entry in [()] + told}


def read_machine(text):
    """The machine whose text it is; refused with NoText, where there is none."""
    entries = entries_by_text()
    rows = [row.split(",") for row in text.split(" ")]
    if not all([word in entries for row in rows for word in row]):
        raise NoText("a word of this text is no entry")
    machine = [[entries[word] for word in row] for row in rows]
    if not is_machine(machine):
        raise NoText("these rows make no machine")
    return machine


def is_number(word):
    """Whether a word is the text of a whole number of at most nine figures."""
    figures = word.removeprefix("-")
    # The count is looked at first, so that a word of a great many figures costs nothing.
    if not 1 <= len(figures) <= MOST_FIGURES:
        return False
    if not all([figure in FIGURES for figure in figures]):
        return False
    return figures[0] != "0" or word == "0"


def read_place(word):
    if not is_number(word):
        raise NoText("a place of this text is none")
    return int(word)


def read_mark(word):
    """The tuple of a strip whose text it is."""
    where, between, sign = word.partition("=")
    if sign not in MARKS:
        raise NoText("a sign of this text is none")
    return (read_place(where), int(sign))


def rises(places):
    return all([low < high for low, high in zip(places, places[1:])])


def read_setup(text):
    """The setup whose text it is; refused with NoText, where there is none."""
    words = text.split(" ")
    if words[0] not in ROWS:
        raise NoText("a setup begins with its row's letter")
    if not 2 <= len(words) <= 2 + MOST_TUPLES:
        raise NoText("a setup has a place and at most forty tuples")
    place = read_place(words[1])
    strip = [read_mark(word) for word in words[2:]]
    if not rises([where for where, sign in strip]):
        raise NoText("the places of a strip rise")
    return (ROWS.index(words[0]), place, strip)
