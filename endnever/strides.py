"""Long strides: a strip by runs of like signs, on which a machine goes through a whole run at once."""

from endnever.machines import must_machine


class Side:
    """The signs on one side of a machine, as runs (sign, many), the nearest one last; beyond them all are 0."""

    def __init__(self, begin):
        self.runs = []
        for sign, many in begin:
            self.lay(sign, many)

    def lay(self, sign, many):
        """Lays so many signs nearest to the machine."""
        if many == 0 or (sign == 0 and self.runs == []):
            return
        if self.runs != [] and self.runs[-1][0] == sign:
            many += self.runs.pop()[1]
        self.runs.append((sign, many))

    def take_run(self, sign):
        """Takes all of this sign that stand nearest, and tells how many."""
        if self.runs == [] or self.runs[-1][0] != sign:
            return 0
        return self.runs.pop()[1]

    def take(self):
        """Takes the nearest sign."""
        if self.runs == []:
            return 0
        sign, many = self.runs.pop()
        self.lay(sign, many - 1)
        return sign


def side_of(marks):
    """The side with these signs (distance, sign), the farthest first."""
    runs = []
    nearer = [distance for distance, sign in marks[1:]] + [0]
    for (distance, sign), near in zip(marks, nearer):
        runs += [(sign, 1), (0, distance - near - 1)]
    return Side(runs)


def runs_of(strip, place):
    """The strip by runs, for a machine that stands at the place."""
    left = side_of([(place - where, sign) for where, sign in strip if where < place])
    right = side_of([(where - place, sign) for where, sign in strip[::-1] if where > place])
    return (left.runs, dict(strip).get(place, 0), right.runs[::-1])


class Strider:
    """A machine on a strip by runs, that goes on stride by stride."""

    def __init__(self, table, row, runs):
        left, sign, right = runs
        self.table = table
        self.row = row
        self.sign = sign
        self.sides = {-1: Side(left), 1: Side(right[::-1])}
        self.steps = 0

    def word(self):
        """Whether it ends here, or never does in its next stride; else it is on."""
        entry = self.table[self.row][self.sign]
        if entry == ():
            return "end"
        put, way, after = entry
        if after == self.row and self.sign == 0 and self.sides[way].runs == []:
            return "never"
        return "on"

    def stride(self):
        """Does one stride; the machine is on."""
        put, way, after = self.table[self.row][self.sign]
        many = 1
        if after == self.row:
            many += self.sides[way].take_run(self.sign)
        self.sides[-way].lay(put, many)
        self.sign = self.sides[way].take()
        self.row = after
        self.steps += many

    def told(self):
        """The strip by runs."""
        return (list(self.sides[-1].runs), self.sign, self.sides[1].runs[::-1])


def by_strides(machine, row, runs, many):
    """(word, steps, row, runs) behind so many strides, or where the machine ends or would never end."""
    must_machine(machine)
    strider = Strider(machine, row, runs)
    for count in range(many):
        if strider.word() != "on":
            break
        strider.stride()
    return (strider.word(), strider.steps, strider.row, strider.told())
