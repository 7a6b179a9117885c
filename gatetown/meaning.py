"""The plain meaning of programs."""

from gatetown.counted import counted_tree
from gatetown.machine import FIRST_BELOW, WORDS
from gatetown.running import NONE_LEFT


def signed(number):
    return number - WORDS if number >= FIRST_BELOW else number


def joined(op, one, another):
    if op == "+":
        return (one + another) % WORDS
    if op == "-":
        return (one - another) % WORDS
    if op == "&":
        return one & another
    # A flag is 0 or 1 everywhere, never True or False.
    if op == "<":
        return 1 if signed(one) < signed(another) else 0
    return 1 if one == another else 0


def first_cells(variables):
    cells = {}
    for kind, name, size in variables:
        cells[name] = [0] * size if kind == "list" else 0
    return cells


def copied(cells):
    copies = {}
    for name, value in cells.items():
        copies[name] = list(value) if isinstance(value, list) else value
    return copies


class Meaning:
    def __init__(self, tree, given):
        counted = counted_tree(tree)
        self.bodies = dict(counted[0])
        # Each frame is a list of entries and the place of the next one, so a depth of parts is no depth of calls.
        self.frames = [[counted[1], 0]]
        self.cells = first_cells(tree[0])
        self.left = list(given)
        self.told = []
        self.faulty = False

    def is_going(self):
        while len(self.frames) > 0 and self.frames[-1][1] == len(self.frames[-1][0]):
            self.frames.pop()
        return len(self.frames) > 0 and not self.faulty

    def end_so_far(self):
        if self.faulty:
            return "fault"
        return "going" if self.is_going() else "ended"

    def next_entry(self):
        frame = self.frames[-1]
        return frame[0][frame[1]]

    def step_ahead(self):
        return (self.next_entry()[0], copied(self.cells), list(self.told))

    def value_of(self, expr):
        # None where a list's place is a fault, which makes a fault of all that is round it.
        if expr[0] == "num":
            return expr[1] % WORDS
        if expr[0] == "flag":
            return 1 if expr[1] else 0
        if expr[0] == "name":
            return self.cells[expr[1]]
        if expr[0] == "at":
            place = self.place_in(expr[1], expr[2])
            return None if place is None else self.cells[expr[1]][place]
        inner = [self.value_of(each) for each in expr[1:]]
        if None in inner:
            return None
        if expr[0] == "not":
            return 1 - inner[0]
        return joined(expr[0], inner[0], inner[1])

    def place_in(self, name, expr):
        place = self.value_of(expr)
        if place is None or not 0 <= signed(place) < len(self.cells[name]):
            return None
        return place

    def do_next(self):
        entry = self.next_entry()
        self.frames[-1][1] = self.frames[-1][1] + 1
        if entry[1][0] in ("if", "while"):
            self.choose(entry)
        elif entry[1][0] in ("set", "put", "tell"):
            self.do_with_value(entry[1])
        else:
            self.do_plain(entry[1])

    def choose(self, entry):
        flag = self.value_of(entry[1][1])
        if flag is None:
            self.faulty = True
        elif entry[1][0] == "if":
            self.frames.append([entry[2][1 - flag], 0])
        elif flag == 1:
            # Behind its body the while is looked at again.
            self.frames[-1][1] = self.frames[-1][1] - 1
            self.frames.append([entry[2][0], 0])

    def do_with_value(self, statement):
        value = self.value_of(statement[-1])
        place = self.place_in(statement[1], statement[2]) if statement[0] == "put" else 0
        if value is None or place is None:
            self.faulty = True
        elif statement[0] == "set":
            self.cells[statement[1]] = value
        elif statement[0] == "put":
            self.cells[statement[1]][place] = value
        else:
            self.told.append(value)

    def do_plain(self, statement):
        if statement[0] == "ask":
            self.cells[statement[1]] = self.left.pop(0) % WORDS if len(self.left) > 0 else NONE_LEFT
        elif statement[0] == "do":
            self.frames.append([self.bodies[statement[1]], 0])
        elif statement[0] == "stop":
            self.frames.clear()


def meant(tree, given, most):
    meaning = Meaning(tree, given)
    steps = []
    while len(steps) < most and meaning.is_going():
        steps.append(meaning.step_ahead())
        meaning.do_next()
    return (list(meaning.told), meaning.end_so_far(), copied(meaning.cells), steps)
