"""Programs are made into rows, and their rows into images."""

from gatetown.counted import counted_tree
from gatetown.linker import linked
from gatetown.machine import PLACES, WORDS
from gatetown.rows import assembled
from gatetown.running import ASK, END, TELL

GIVE_WAY = 2
# Any call above those that are told of is a fault.
FAULT = 4


def is_direct(expr):
    return expr[0] in ("num", "flag", "name")


def number_in(expr):
    if expr[0] == "flag":
        return 1 if expr[1] else 0
    return expr[1] % WORDS


class Writer:
    def __init__(self, tree):
        self.rows = []
        self.begins = {}
        self.cells = {}
        self.labels = 0
        self.temps = 0
        self.constants = {}
        # Labels have a letter and a number, never a name of the program's: that could be another label's.
        self.variables = {}
        self.sizes = {}
        for place, variable in enumerate(tree[0]):
            self.variables[variable[1]] = f"v{place}"
            self.sizes[variable[1]] = variable[2]
        self.doings = {}
        for place, part in enumerate(tree[1]):
            self.doings[part[0]] = f"p{place}"

    def put_row(self, op, arg):
        self.rows.append(f"{op} {arg}")

    def put_label(self, label):
        self.rows.append(f"{label}:")

    def new_label(self):
        number = self.labels
        self.labels = number + 1
        return f"j{number}"

    def constant(self, number):
        self.constants[number] = True
        return f"n{number}"

    def temp(self, depth):
        self.temps = max(self.temps, depth + 1)
        return f"t{depth}"

    # A value comes to stand in a; the rows for it lose x, and the temps of this depth and of those above.

    def write_value(self, expr, depth):
        if is_direct(expr):
            self.write_direct(expr)
        elif expr[0] == "at":
            self.write_value(expr[2], depth)
            self.write_guard(expr[1])
            self.put_row("from", self.variables[expr[1]])
        elif expr[0] == "not":
            self.write_value(expr[1], depth)
            self.put_row("take", self.constant(1))
            self.put_row("both", self.constant(1))
        else:
            self.write_joined(expr, depth)

    def write_direct(self, expr):
        if expr[0] == "name":
            self.put_row("load", self.variables[expr[1]])
        elif number_in(expr) < PLACES:
            self.put_row("set", number_in(expr))
        else:
            self.put_row("load", self.constant(number_in(expr)))

    def write_guard(self, name):
        # The place stands in a, and in x behind this; taking the size goes round for no place that is not below 0.
        fault = self.new_label()
        fits = self.new_label()
        self.put_row("move", 0)
        self.put_row("below", fault)
        self.put_row("take", self.constant(self.sizes[name]))
        self.put_row("below", fits)
        self.put_label(fault)
        self.put_row("call", FAULT)
        self.put_label(fits)

    def write_operands(self, expr, depth):
        # The one comes to stand in a; told is the label of the word where the other stands.
        if expr[2][0] == "name":
            self.write_value(expr[1], depth)
            return self.variables[expr[2][1]]
        if is_direct(expr[2]):
            self.write_value(expr[1], depth)
            return self.constant(number_in(expr[2]))
        self.write_value(expr[2], depth)
        self.put_row("store", self.temp(depth))
        self.write_value(expr[1], depth + 1)
        return self.temp(depth)

    def write_joined(self, expr, depth):
        operand = self.write_operands(expr, depth)
        if expr[0] == "<":
            self.write_less(operand)
        elif expr[0] == "=":
            self.write_alike(operand)
        else:
            ops = {"+": "add", "-": "take", "&": "both"}
            self.put_row(ops[expr[0]], operand)

    def write_alike(self, operand):
        yes = self.new_label()
        behind = self.new_label()
        self.put_row("take", operand)
        self.put_row("zero", yes)
        self.put_row("set", 0)
        self.put_row("goto", behind)
        self.put_label(yes)
        self.put_row("set", 1)
        self.put_label(behind)

    def write_less(self, operand):
        # The difference goes round where one is below 0 and the other is not, so it is asked only of the rest.
        below = self.new_label()
        same = self.new_label()
        no = self.new_label()
        yes = self.new_label()
        behind = self.new_label()
        self.put_row("move", 0)
        self.put_row("below", below)
        self.put_row("load", operand)
        self.put_row("below", no)
        self.put_label(same)
        self.put_row("move", 1)
        self.put_row("take", operand)
        self.put_row("below", yes)
        self.put_label(no)
        self.put_row("set", 0)
        self.put_row("goto", behind)
        self.put_label(below)
        self.put_row("load", operand)
        self.put_row("below", same)
        self.put_label(yes)
        self.put_row("set", 1)
        self.put_label(behind)

    # A body leads to the label behind it: it falls through to it, or leaps straight there from within.

    def write_body(self, entries, behind):
        for entry in entries[:-1]:
            after = self.new_label()
            self.write_statement(entry, after)
            self.put_label(after)
        for entry in entries[-1:]:
            self.write_statement(entry, behind)

    def write_statement(self, entry, behind):
        if entry[1][0] == "while":
            self.write_while(entry, behind)
            return
        self.begins[entry[0]] = len(self.rows)
        if entry[1][0] == "if":
            self.write_if(entry, behind)
        elif entry[1][0] == "put":
            self.write_put(entry[1])
        else:
            self.write_plain(entry[1])

    def write_while(self, entry, behind):
        again = self.new_label()
        self.put_label(again)
        self.begins[entry[0]] = len(self.rows)
        self.write_value(entry[1][1], 0)
        self.put_row("zero", behind)
        self.write_body(entry[2][0], again)
        self.put_row("goto", again)

    def write_if(self, entry, behind):
        self.write_value(entry[1][1], 0)
        if len(entry[2][1]) == 0:
            self.put_row("zero", behind)
            self.write_body(entry[2][0], behind)
            return
        otherwise = self.new_label()
        self.put_row("zero", otherwise)
        self.write_body(entry[2][0], behind)
        self.put_row("goto", behind)
        self.put_label(otherwise)
        self.write_body(entry[2][1], behind)

    def write_put(self, statement):
        value = statement[3]
        if is_direct(value):
            self.write_value(statement[2], 0)
            self.write_guard(statement[1])
            self.write_direct(value)
        else:
            self.write_value(value, 0)
            self.put_row("store", self.temp(0))
            self.write_value(statement[2], 1)
            self.write_guard(statement[1])
            self.put_row("load", self.temp(0))
        self.put_row("into", self.variables[statement[1]])

    def write_plain(self, statement):
        if statement[0] == "set":
            self.write_value(statement[2], 0)
            self.put_row("store", self.variables[statement[1]])
        elif statement[0] == "tell":
            self.write_value(statement[1], 0)
            self.put_row("call", TELL)
        elif statement[0] == "ask":
            self.put_row("call", ASK)
            self.put_row("store", self.variables[statement[1]])
        elif statement[0] == "do":
            self.put_row("link", self.doings[statement[1]])
        else:
            self.put_row("call", END if statement[0] == "stop" else GIVE_WAY)

    def write_main(self, entries):
        behind = self.new_label()
        self.write_body(entries, behind)
        self.put_label(behind)
        self.put_row("call", END)

    def write_part(self, place, entries):
        way_back = f"r{place}"
        behind = self.new_label()
        self.put_label(f"p{place}")
        self.put_row("store", way_back)
        self.write_body(entries, behind)
        self.put_label(behind)
        self.put_row("load", way_back)
        self.put_row("move", 3)
        self.put_label(way_back)
        self.put_row("word", 0)

    def write_words(self, variables):
        for kind, name, size in variables:
            self.put_label(self.variables[name])
            self.cells[name] = len(self.rows)
            self.put_row("space", size)
        for number in self.constants:
            self.put_label(f"n{number}")
            self.put_row("word", number)
        for depth in range(self.temps):
            self.put_label(f"t{depth}")
            self.put_row("word", 0)


def made(tree):
    writer = Writer(tree)
    entries = counted_tree(tree)
    writer.write_main(entries[1])
    for place, part in enumerate(entries[0]):
        writer.write_part(place, part[1])
    writer.write_words(tree[0])
    return ("\n".join(writer.rows), (writer.begins, writer.cells))


def places_by(rows, places):
    found = {}
    for key, row in rows.items():
        found[key] = places[row]
    return found


def image_of(tree):
    answer = made(tree)
    module = assembled(answer[0])
    paper = (places_by(answer[1][0], module[4]), places_by(answer[1][1], module[4]))
    return (linked([module])[0], paper)
