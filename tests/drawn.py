"""What the tests share of programs: drawn ones, their plain meaning by another walk, and what their images may cost."""

from gatetown.kinds import looked
from gatetown.reading import tree_of

EDGES = [0, 1, 2, 98, 99, 100, 4095, 4096, 32766, 32767, 32768, 32769, 65534, 65535]


class Fault(Exception):
    pass


class Stopped(Exception):
    pass


class Enough(Exception):
    pass


def signed(number):
    return (number + 32768) % 65536 - 32768


class Walk:
    """Point [18], word by word: a recursive walk that leaves by errors."""

    def __init__(self, tree, given, most):
        self.most = most
        self.given = list(given)
        self.told = []
        self.steps = []
        self.cells = {name: [0] * size if kind == "list" else 0 for kind, name, size in tree[0]}
        self.count = 0
        self.parts = {name: self.numbered(body) for name, body in tree[1]}
        self.main = self.numbered(tree[2])

    def numbered(self, body):
        found = []
        for statement in body:
            number = self.count
            self.count += 1
            inner = [self.numbered(one) for one in statement[2:]] if statement[0] in ["if", "while"] else []
            found.append((number, statement, inner))
        return found

    def copied(self):
        return {name: list(value) if isinstance(value, list) else value for name, value in self.cells.items()}

    def place(self, name, expr):
        place = signed(self.value(expr))
        if place < 0 or place >= len(self.cells[name]):
            raise Fault()
        return place

    def value(self, expr):
        if expr[0] == "num":
            return expr[1]
        if expr[0] == "flag":
            return int(expr[1])
        if expr[0] == "name":
            return self.cells[expr[1]]
        if expr[0] == "at":
            return self.cells[expr[1]][self.place(expr[1], expr[2])]
        if expr[0] == "not":
            return int(not self.value(expr[1]))
        one, another = self.value(expr[1]), self.value(expr[2])
        return {"+": (one + another) % 65536, "-": (one - another) % 65536, "&": one & another,
                "<": int(signed(one) < signed(another)), "=": int(one == another)}[expr[0]]

    def begin(self, number):
        if len(self.steps) >= self.most:
            raise Enough()
        self.steps.append((number, self.copied(), list(self.told)))

    def body(self, entries):
        for number, statement, inner in entries:
            self.begin(number)
            self.statement(number, statement, inner)

    def statement(self, number, statement, inner):
        deed = statement[0]
        if deed == "set":
            self.cells[statement[1]] = self.value(statement[2])
        elif deed == "put":
            place, value = self.place(statement[1], statement[2]), self.value(statement[3])
            self.cells[statement[1]][place] = value
        elif deed == "tell":
            self.told.append(self.value(statement[1]))
        elif deed == "ask":
            self.cells[statement[1]] = self.given.pop(0) if self.given else 65535
        elif deed == "do":
            self.body(self.parts[statement[1]])
        elif deed == "if":
            self.body(inner[0] if self.value(statement[1]) else inner[1])
        elif deed == "while":
            while self.value(statement[1]):
                self.body(inner[0])
                self.begin(number)
        elif deed == "stop":
            raise Stopped()

    def all(self):
        end = "ended"
        try:
            self.body(self.main)
        except Fault:
            end = "fault"
        except Enough:
            end = "going"
        except Stopped:
            pass
        return self.told, end, self.cells, self.steps


def meant_by_words(tree, given, most):
    return Walk(tree, given, most).all()


def exprs_in(expr):
    return [expr] + [inner for one in expr[1:] if isinstance(one, tuple) for inner in exprs_in(one)]


def exprs_of(statement):
    """Each expression within a statement, its parts too, without those of the statements within it."""
    return [inner for one in statement[1:] if isinstance(one, tuple) for inner in exprs_in(one)]


def cost_of_expr(expr):
    own = {"num": 1, "flag": 1, "name": 1, "at": 8, "+": 2, "-": 2, "&": 2, "=": 6, "<": 15, "not": 4}[expr[0]]
    return own + sum(cost_of_expr(one) for one in expr[1:] if isinstance(one, tuple))


STATEMENT_COSTS = {"set": 1, "tell": 1, "put": 10, "ask": 2, "do": 1, "stop": 1, "way": 1, "if": 2, "while": 2}


def cost_of_body(body):
    cost = 0
    for statement in body:
        cost += STATEMENT_COSTS[statement[0]]
        for one in statement[1:]:
            if isinstance(one, tuple):
                cost += cost_of_expr(one)
            elif isinstance(one, list):
                cost += cost_of_body(one)
    return cost


def most_words(tree):
    """Point [19]: the most words that the image of a tree may have."""
    cost = 20 + 2 + cost_of_body(tree[2])
    cost += sum(4 + cost_of_body(body) for _, body in tree[1])
    cost += sum(size + (kind == "list") for kind, _, size in tree[0])
    return cost * 6 // 5


def most_beats(statement):
    return 100 + 100 * len(exprs_of(statement))


class Drawer:
    """Draws a program's text: its kinds fit, its whiles mostly end, its lists are mostly met within their size."""

    def __init__(self, source, faults=True):
        self.source = source
        self.faults = faults
        self.nums = source.sample(["a", "b", "load", "word", "store", "n", "t", "space"], source.randrange(1, 4))
        self.flags = source.sample(["f", "g", "zero", "j"], source.randrange(1, 3))
        self.lists = [(name, source.choice([4, 5, 8, 99])) for name in
                      source.sample(["xs", "ys", "v", "own"], source.randrange(1, 3))]
        self.counters = ["ca", "cb", "cc"]
        self.ended = []
        self.left = 20

    def place(self, depth):
        if self.faults and self.source.randrange(6) == 0:
            return self.num(depth)
        return self.source.choice([str(self.source.randrange(4)), "(" + self.num(max(depth - 1, 0)) + "&3)"])

    def num(self, depth):
        kind = self.source.randrange(7) if depth else self.source.randrange(3)
        if kind == 0:
            return str(self.source.choice([0, 1, 2, 3, 7, 99, 4095]))
        if kind < 3:
            return self.source.choice(self.nums + self.counters)
        if kind == 3:
            return self.source.choice(self.lists)[0] + "[" + self.place(depth - 1) + "]"
        return "(" + self.num(depth - 1) + self.source.choice("+-&") + self.num(depth - 1) + ")"

    def flag(self, depth):
        kind = self.source.randrange(6) if depth else self.source.randrange(2)
        if kind == 0:
            return self.source.choice(["yes", "no"])
        if kind == 1:
            return self.source.choice(self.flags)
        if kind == 2:
            return "not(" + self.flag(depth - 1) + ")"
        return "(" + self.num(depth - 1) + self.source.choice("<<=") + self.num(depth - 1) + ")"

    def loop(self, depth, level):
        if level >= len(self.counters) or self.source.randrange(8) == 0:
            return ["while " + self.flag(depth)] + self.body(depth, level + 1) + ["end"]
        counter = self.counters[level]
        rows = [counter + " = 0", "while (" + counter + "<" + str(self.source.randrange(4)) + ")"]
        return rows + self.body(depth, level + 1) + [counter + " = (" + counter + "+1)", "end"]

    def statement(self, depth, level):
        kind = self.source.randrange(20)
        if kind < 5:
            return ["tell " + self.num(depth)]
        if kind < 7:
            return [self.source.choice(self.nums) + " = " + self.num(depth)]
        if kind < 9:
            return [self.source.choice(self.flags) + " = " + self.flag(depth)]
        if kind < 11:
            return [self.source.choice(self.lists)[0] + "[" + self.place(depth) + "] = " + self.num(depth)]
        if kind < 13:
            return ["ask " + self.source.choice(self.nums)]
        if kind < 14:
            return ["give way"]
        if kind < 16 and self.ended:
            return ["do " + self.source.choice(self.ended)]
        if kind < 19 and level < 4:
            if self.source.randrange(2):
                return self.loop(depth, level)
            rows = ["if " + self.flag(depth)] + self.body(depth, level + 1)
            return rows + (["else"] + self.body(depth, level + 1) if self.source.randrange(2) else []) + ["end"]
        return ["stop"] if self.source.randrange(6) == 0 else ["tell " + self.num(1)]

    def body(self, depth, level):
        rows = []
        for _ in range(self.source.choice([0, 1, 2, 2, 3])):
            if self.left > 0:
                self.left -= 1
                rows.extend(self.statement(depth, level))
        return rows

    def text(self):
        rows = ["num " + name for name in self.nums + self.counters] + ["flag " + name for name in self.flags]
        rows += ["list " + name + " " + str(size) for name, size in self.lists]
        self.source.shuffle(rows)
        depth = self.source.choice([0, 1, 2, 3])
        for name in self.source.sample(["a", "xs", "goto", "p", "call"], self.source.randrange(3)):
            rows += ["part " + name] + self.body(depth, 0) + ["end"]
            self.ended.append(name)
        self.left = 40
        main = []
        for _ in range(self.source.choice([0, 2, 6, 10, 14])):
            main.extend(self.statement(depth, 0))
        return "\n".join(rows + ["main"] + main + ["end"])


def drawn_text(source, faults=True):
    return Drawer(source, faults).text()


def drawn_tree(source, faults=True):
    tree = tree_of(drawn_text(source, faults))
    looked(tree)
    return tree


def drawn_given(source):
    return [source.choice(EDGES + [source.randrange(65536)]) for _ in range(source.randrange(6))]


def tree_with(*rows):
    """A tree of the rows of main, with some variables ahead."""
    head = ["num a", "num b", "num c", "flag f", "flag g", "list xs 4", "list ys 99"]
    tree = tree_of("\n".join(head + ["main"] + list(rows) + ["end"]))
    looked(tree)
    return tree


def lists_in(value):
    """Each list and dict within a value, itself too."""
    found = [value] if isinstance(value, (list, dict)) else []
    if isinstance(value, (list, tuple)):
        for one in value:
            found.extend(lists_in(one))
    elif isinstance(value, dict):
        for one in value.values():
            found.extend(lists_in(one))
    return found


def flags_in(value):
    """Each True and False within a value, which no answer may have for a number."""
    if isinstance(value, bool):
        return [value]
    if isinstance(value, dict):
        value = [one for pair in value.items() for one in pair]
    return [flag for one in value for flag in flags_in(one)] if isinstance(value, (list, tuple)) else []
