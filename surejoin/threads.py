"""A thread: where it stands, what is left to it, what its rows do, and how it ends."""

from surejoin.reckoning import reckoned

# By the first word of a row with one expression, or perhaps none, where it stands.
PLACES = {"let": 3, "wait": 4, "get": 4, "tell": 2, "split": 2}


def expressions_of(row):
    if row[0] == "put":
        return row[3]
    if row[0] == "begin":
        return [row[3]] + row[4]
    if row[0] == "stop":
        return []
    E = row[PLACES[row[0]]]
    return [] if E is None else [E]


def numbers_of(row, names):
    # Threads go on only where the program is let: no expression of a row looks at a box.
    return [reckoned(E, names, {}) for E in expressions_of(row)]


def put_by(kind, numbers):
    return [tuple(numbers)] if kind == "map" else list(numbers)


def waited_for(row, numbers):
    """Box, word and number that a wait or get waits for; None of another row, or where there is no number."""
    if None in numbers:
        return None
    if row[0] == "wait":
        return (row[2], row[3], numbers[0])
    if row[0] != "get":
        return None
    return (row[3], "held", 0) if row[4] is None else (row[3], "item", numbers[0])


# A thread asks nobody what is in a box: whoever has it go on tells what its wait or get is given. So it does the same
# in a house and alone.
class Thread:
    def __init__(self, plan, name, numbers, steps):
        self.rows = plan.rows[name]
        self.kinds = plan.kinds
        self.last = plan.lasts[name]
        self.names = dict(zip(plan.params[name], numbers))
        self.left = steps
        self.used = 0
        self.told = []
        # How many threads it began: the next one is called by that number.
        self.begun = 0
        # None as long as it hasn't ended, then its word and line.
        self.end = None
        self.go_to(0)

    def go_to(self, place):
        while place < len(self.rows) and self.rows[place][0] == "jump":
            place = self.rows[place][2]
        self.place = place
        self.numbers = []
        if place >= len(self.rows):
            self.end = ("done", self.last)
        elif self.left <= 0:
            self.end = ("tired", self.line_here())
        else:
            self.numbers = numbers_of(self.rows[place], self.names)

    def line_here(self):
        return self.rows[self.place][1]

    def wants(self):
        """What it waits for, or is let past with, at the row where it stands; None where it needs nothing."""
        return None if self.end is not None else waited_for(self.rows[self.place], self.numbers)

    def deed_of(self, row, given):
        numbers = self.numbers
        if None in numbers:
            return ("nought",)
        if row[0] == "let":
            return ("let", row[2], numbers[0])
        if row[0] == "put":
            return ("put", row[2], put_by(self.kinds[row[2]], numbers))
        if row[0] == "tell":
            return ("tell", numbers[0])
        if row[0] == "split":
            return ("test", numbers[0])
        if row[0] == "begin":
            return ("begin", row[2], min(numbers[0], self.left), numbers[1:])
        if row[0] == "stop":
            return ("stop",)
        return ("pass",) + waited_for(row, numbers) + (given,)

    def keep(self, row, deed):
        if deed[0] == "let":
            self.names[deed[1]] = deed[2]
        elif row[0] == "get":
            self.names[row[2]] = deed[4]
        elif deed[0] == "tell":
            self.told.append(deed[1])
        elif deed[0] == "begin":
            self.left -= deed[2]

    def do_row(self, given):
        """Does the row where it stands, a wait or get with what it is given, and tells the deed."""
        row = self.rows[self.place]
        self.used += 1
        self.left -= 1
        deed = self.deed_of(row, given)
        if deed[0] == "nought":
            self.end = ("nought", row[1])
        elif deed[0] == "stop":
            self.end = ("done", row[1])
        elif deed == ("test", 0):
            self.go_to(row[3])
        else:
            self.keep(row, deed)
            self.go_to(self.place + 1)
        return deed
