"""Books: machines by names, their papers, and the deeds that can be taken back."""

from endnever.errors import Full, NoDeed, NoName, NoPaper, NoSuch, Twice
from endnever.lookers import shows
from endnever.machines import must_machine

MOST_MACHINES = 12
MOST_LETTERS = 8
LETTERS = "abcdefghijklmnopqrstuvwxyz"


def is_name(name):
    return 1 <= len(name) <= MOST_LETTERS and all([letter in LETTERS for letter in name])


def own_machine(machine):
    """The machine with lists of its own."""
    return [list(row) for row in machine]


def own_paper(paper):
    """The paper with lists of its own, where it has some."""
    return tuple([list(part) if isinstance(part, list) else part for part in paper])


class Book:
    """Keeps machines by names.

    A page holds the machines and the papers by their names as they are behind some deed. A deed writes another page
    and changes none: so to take it back is to turn to the page before, and books may have pages in common.
    """

    def __init__(self):
        self.page = ({}, {})
        self.earlier = []
        self.later = []

    def turn_to(self, machines, papers):
        """A deed: from now on this is the page."""
        self.earlier.append(self.page)
        self.later = []
        self.page = (machines, papers)

    def must_have(self, name):
        """The page's machines and papers; refused with NoSuch, where there is no machine of this name."""
        machines, papers = self.page
        if name not in machines:
            raise NoSuch("there is no machine of this name")
        return (machines, papers)

    def put(self, name, machine):
        """A machine more."""
        machines, papers = self.page
        if not is_name(name):
            raise NoName("a name has one to eight small letters")
        if name in machines:
            raise Twice("there is a machine of this name")
        must_machine(machine)
        if len(machines) >= MOST_MACHINES:
            raise Full("a book keeps no more machines")
        machines = dict(machines)
        machines[name] = own_machine(machine)
        self.turn_to(machines, papers)

    def out(self, name):
        """This machine fewer, and its paper."""
        machines, papers = self.must_have(name)
        left = {other: machines[other] for other in machines if other != name}
        self.turn_to(left, {other: papers[other] for other in papers if other != name})

    def paper(self, name, paper):
        """The machine's paper from now on."""
        machines, papers = self.must_have(name)
        if not shows(machines[name], paper):
            raise NoPaper("the looker doesn't let this paper by")
        papers = dict(papers)
        papers[name] = own_paper(paper)
        self.turn_to(machines, papers)

    def back(self):
        """Takes the last deed back."""
        if self.earlier == []:
            raise NoDeed("there is no deed to take back")
        self.later.append(self.page)
        self.page = self.earlier.pop()

    def again(self):
        """Does the last deed that was taken back again."""
        if self.later == []:
            raise NoDeed("there is no deed to do again")
        self.earlier.append(self.page)
        self.page = self.later.pop()

    def names(self):
        """The names, in order."""
        machines, papers = self.page
        return sorted(machines)

    def machine(self, name):
        """The machine of this name."""
        machines, papers = self.must_have(name)
        return own_machine(machines[name])

    def paper_of(self, name):
        """The paper of the machine of this name, or None."""
        machines, papers = self.must_have(name)
        return own_paper(papers[name]) if name in papers else None

    def ended(self):
        """(name, steps) of the machines with a paper by which they end."""
        machines, papers = self.page
        return [(name, papers[name][1]) for name in sorted(papers) if papers[name][0] == "ends"]

    def never(self):
        """The names of the machines with another paper."""
        machines, papers = self.page
        return [name for name in sorted(papers) if papers[name][0] != "ends"]

    def unsettled(self):
        """The names of the machines without a paper."""
        machines, papers = self.page
        return [name for name in sorted(machines) if name not in papers]

    def twin(self):
        """Another book that is alike, with its deeds, also those taken back."""
        other = Book()
        other.page = self.page
        other.earlier = list(self.earlier)
        other.later = list(self.later)
        return other
