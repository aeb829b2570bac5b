"""What a machine is, and one step of it."""

from endnever.errors import NoMachine

MOST_ROWS = 4
LEAST_SIGNS = 2
MOST_SIGNS = 4


class Walk:
    """A machine on its strip: it stands in one setup and goes on step by step.

    The signs are kept by their places in a dict, so that a long strip costs a step no more than a short one.
    """

    def __init__(self, table, begin):
        row, place, strip = begin
        self.table = table
        self.row = row
        self.place = place
        self.marks = {where: sign for where, sign in strip}

    def look(self):
        """The row, the place, and the sign that is read there."""
        return (self.row, self.place, self.marks.get(self.place, 0))

    def entry(self):
        """The entry that is looked up where the machine stands."""
        row, place, sign = self.look()
        return self.table[row][sign]

    def step(self):
        """Does one step and tells True, or tells False where the machine ends."""
        entry = self.entry()
        if entry == ():
            return False
        sign, way, row = entry
        self.mark(sign)
        self.place += way
        self.row = row
        return True

    def mark(self, sign):
        """Puts a sign at the place; a 0 is not kept, since a strip is told without noughts."""
        if sign == 0:
            self.marks.pop(self.place, 0)
        else:
            self.marks[self.place] = sign

    def setup(self):
        """The setup in which the machine stands, with a strip of its own."""
        return (self.row, self.place, sorted(self.marks.items()))


def first_setup():
    """The setup behind 0 steps."""
    return (0, 0, [])


def is_entry(entry, rows, signs):
    if len(entry) == 0:
        return True
    if len(entry) != 3:
        return False
    sign, way, row = entry
    return 0 <= sign < signs and way in (-1, 1) and 0 <= row < rows


def is_row(row, rows, signs):
    return len(row) == signs and all([is_entry(entry, rows, signs) for entry in row])


def is_machine(machine):
    rows = len(machine)
    if not 1 <= rows <= MOST_ROWS:
        return False
    signs = len(machine[0])
    if not LEAST_SIGNS <= signs <= MOST_SIGNS:
        return False
    return all([is_row(row, rows, signs) for row in machine])


def must_machine(machine):
    """Refuses with NoMachine what is no machine."""
    if not is_machine(machine):
        raise NoMachine("this is no machine")


def stepped(machine, setup):
    """The setup behind one step from a setup, or None where the machine ends there."""
    must_machine(machine)
    walk = Walk(machine, setup)
    if not walk.step():
        return None
    return walk.setup()
