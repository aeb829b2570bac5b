"""A desk: a book that is asked by lines, and answers by texts."""

from endnever.alike import are_alike, groups, least_form
from endnever.blocks import by_blocks
from endnever.books import Book
from endnever.census import census, fullest, greatest
from endnever.errors import NoLine
from endnever.runs import run
from endnever.sorting import sorted_as
from endnever.strides import by_strides
from endnever.texts import ROWS, is_number, read_machine, show_machine, show_paper, show_setup
from endnever.tree import node_of

# What stands behind the first word of each line.
FORMS = {
    "put": ("NAME", "MACHINE"),
    "out": ("NAME",),
    "back": (),
    "again": (),
    "show": ("NAME",),
    "run": ("NAME", "N"),
    "sort": ("NAME",),
    "papers": (),
    "like": ("NAME", "NAME"),
    "least": ("NAME",),
    "groups": (),
    "node": ("NAME",),
    "census": ("SIZE", "SIZE"),
    "greatest": ("SIZE", "SIZE"),
    "fullest": ("SIZE", "SIZE"),
    "blocks": ("NAME", "K", "BLOCKS"),
    "strides": ("NAME", "N"),
}

# The least and the greatest number of each kind.
BOUNDS = {"N": (0, 500), "BLOCKS": (0, 300), "K": (1, 4), "SIZE": (0, 99)}


def read_thing(kind, word):
    """A word as it is, or as a number, where the kind is one; refused with NoLine beyond its bounds."""
    if kind not in BOUNDS:
        return word
    low, high = BOUNDS[kind]
    if not is_number(word) or not low <= int(word) <= high:
        raise NoLine("a number of this line is none, or too great or too small")
    return int(word)


def read_line(line):
    """(the first word, the list of the things behind it) of a line; refused with NoLine, where it is none."""
    first, *words = line.split(" ")
    if "" in words or first not in FORMS:
        raise NoLine("this is no line")
    kinds = FORMS[first]
    if "MACHINE" in kinds and len(words) > 1:
        words = [words[0], " ".join(words[1:])]
    if len(words) != len(kinds):
        raise NoLine("this line has too few or too many words")
    return (first, [read_thing(kind, word) for kind, word in zip(kinds, words)])


def some(texts):
    """Texts with a semicolon between, or none."""
    return "none" if texts == [] else "; ".join(texts)


def answer_put(book, things):
    name, text = things
    book.put(name, read_machine(text))
    return "ok"


def answer_out(book, things):
    book.out(things[0])
    return "ok"


def answer_back(book, things):
    book.back()
    return "ok"


def answer_again(book, things):
    book.again()
    return "ok"


def answer_show(book, things):
    return show_machine(book.machine(things[0]))


def answer_run(book, things):
    name, most = things
    word, steps, setup = run(book.machine(name), most)
    return f"{word} {steps} {show_setup(setup)}"


def answer_sort(book, things):
    name = things[0]
    paper = sorted_as(book.machine(name))
    # What is open shows nothing: so an earlier paper stays.
    if paper[0] != "open":
        book.paper(name, paper)
    return show_paper(paper)


def answer_papers(book, things):
    papers = [(name, book.paper_of(name)) for name in book.names()]
    return some([f"{name} {show_paper(paper)}" for name, paper in papers if paper is not None])


def answer_like(book, things):
    one = book.machine(things[0])
    other = book.machine(things[1])
    return "yes" if are_alike(one, other) else "no"


def answer_least(book, things):
    return show_machine(least_form(book.machine(things[0])))


def answer_groups(book, things):
    names = book.names()
    told = groups([book.machine(name) for name in names])
    return some([" ".join([names[at] for at in group]) for group in told])


def answer_node(book, things):
    place, rows, signs, turned = node_of(book.machine(things[0]))
    letters = "".join([ROWS[row] for row in rows])
    figures = "".join([str(sign) for sign in signs])
    side = "left" if turned else "right"
    return f"{place} {letters} {figures} {side}"


def answer_census(book, things):
    many, ends, rest = census(things[0], things[1])
    words = [str(many)] + [f"{steps} {count}" for steps, count in ends]
    return " ".join(words + ["never", str(rest)])


def most_text(most):
    """The text of the greatest or the fullest of a size."""
    number, machines = most
    return "; ".join([str(number)] + [show_machine(machine) for machine in machines])


def answer_greatest(book, things):
    return most_text(greatest(things[0], things[1]))


def answer_fullest(book, things):
    return most_text(fullest(things[0], things[1]))


def answer_blocks(book, things):
    name, k, many = things
    word, steps, row, place, strip = by_blocks(book.machine(name), k, many)
    return f"{word} {steps} {ROWS[row]} {place}"


def answer_strides(book, things):
    name, many = things
    word, steps, row, runs = by_strides(book.machine(name), 0, ([], 0, []), many)
    return f"{word} {steps} {ROWS[row]}"


ANSWERS = {
    "put": answer_put,
    "out": answer_out,
    "back": answer_back,
    "again": answer_again,
    "show": answer_show,
    "run": answer_run,
    "sort": answer_sort,
    "papers": answer_papers,
    "like": answer_like,
    "least": answer_least,
    "groups": answer_groups,
    "node": answer_node,
    "census": answer_census,
    "greatest": answer_greatest,
    "fullest": answer_fullest,
    "blocks": answer_blocks,
    "strides": answer_strides,
}


class Desk:
    """Has one book, and is told lines."""

    def __init__(self):
        self.book = Book()

    def say(self, line):
        """The answer to a line; a line that is refused changes nothing."""
        first, things = read_line(line)
        answer = ANSWERS[first]
        return answer(self.book, things)
