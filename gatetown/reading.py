"""A program's text is read into a tree."""

from gatetown.errors import BadLine
from gatetown.written import FIGURES, LETTERS, is_lettered, number_written

RESERVED = ("num", "flag", "list", "part", "main", "end", "tell", "ask", "do", "if", "else", "while", "stop", "give",
            "way", "not", "yes", "no")
JOINS = ("+", "-", "&", "<", "=")

MOST_NAME = 8
MOST_NUMBER = 4095
MOST_SIZE = 99
MOST_BRACKETS = 8
MOST_DEPTH = 8
MOST_VARIABLES = 40
MOST_PARTS = 12
MOST_STATEMENTS = 200


def is_name(text):
    return is_lettered(text, MOST_NAME) and text not in RESERVED


def run_of(text, at, signs):
    behind = at
    while behind < len(text) and text[behind] in signs:
        behind = behind + 1
    return text[at:behind]


# The functions below read from a place of a text on, under so many brackets, and tell a tuple of an expression and
# the place behind it, or None. As every join has brackets round it, the first sign settles which form is read.


def number_at(text, at):
    figures = run_of(text, at, FIGURES)
    number = number_written(figures, MOST_NUMBER)
    return None if number is None else (("num", number), at + len(figures))


def within_at(text, at, brackets, depth):
    if text[at:at + 1] != brackets[0] or depth == MOST_BRACKETS:
        return None
    inner = expr_at(text, at + 1, depth + 1)
    if inner is None or text[inner[1]:inner[1] + 1] != brackets[1]:
        return None
    return (inner[0], inner[1] + 1)


def joined_at(text, at, depth):
    if depth == MOST_BRACKETS:
        return None
    one = expr_at(text, at + 1, depth + 1)
    if one is None:
        return None
    join = text[one[1]:one[1] + 1]
    if join not in JOINS:
        return None
    another = expr_at(text, one[1] + 1, depth + 1)
    if another is None or text[another[1]:another[1] + 1] != ")":
        return None
    return ((join, one[0], another[0]), another[1] + 1)


def lettered_at(text, at, letters, depth):
    behind = at + len(letters)
    if letters in ("yes", "no"):
        return (("flag", letters == "yes"), behind)
    if letters == "not":
        inner = within_at(text, behind, "()", depth)
        return None if inner is None else (("not", inner[0]), inner[1])
    if not is_name(letters):
        return None
    if text[behind:behind + 1] != "[":
        return (("name", letters), behind)
    inner = within_at(text, behind, "[]", depth)
    return None if inner is None else (("at", letters, inner[0]), inner[1])


def expr_at(text, at, depth):
    letters = run_of(text, at, LETTERS)
    if letters != "":
        return lettered_at(text, at, letters, depth)
    if text[at:at + 1] == "(":
        return joined_at(text, at, depth)
    return number_at(text, at)


def expr_of(text):
    found = expr_at(text, 0, 0)
    if found is None or found[1] != len(text):
        return None
    return found[0]


def names_in(expr):
    if expr[0] in ("num", "flag"):
        return []
    if expr[0] == "name":
        return [expr[1]]
    if expr[0] == "at":
        return [expr[1]] + names_in(expr[2])
    names = []
    for inner in expr[1:]:
        names.extend(names_in(inner))
    return names


def words_in(row):
    # None where the row has no words, or more than one blank between two, or one behind the last.
    words = row.lstrip(" ").split(" ")
    return None if "" in words else words


def variable_of(words):
    # None where the row is of no variable's form.
    if words[0] in ("num", "flag") and len(words) == 2:
        return (words[0], words[1], 1)
    if words[0] == "list" and len(words) == 3:
        size = number_written(words[2], MOST_SIZE)
        return None if size is None or size == 0 else ("list", words[1], size)
    return None


class Reader:
    def __init__(self, rows):
        self.rows = rows
        self.at = 0
        self.variables = {}
        self.ended = {}
        self.so_far = 0

    def refuse(self):
        # Behind the last row this is the number of rows, as it is told where the text ends too early.
        raise BadLine(self.at)

    def here(self):
        words = words_in(self.rows[self.at]) if self.at < len(self.rows) else None
        if words is None:
            self.refuse()
        return words

    def take_row(self, words):
        if self.here() != words:
            self.refuse()
        self.at = self.at + 1

    def known_expr(self, text):
        expr = expr_of(text)
        if expr is None or not all([name in self.variables for name in names_in(expr)]):
            return None
        return expr

    def read_variables(self):
        found = []
        while self.here()[0] in ("num", "flag", "list"):
            variable = variable_of(self.here())
            if variable is None or len(found) == MOST_VARIABLES:
                self.refuse()
            if not is_name(variable[1]) or variable[1] in self.variables:
                self.refuse()
            self.variables[variable[1]] = True
            found.append(variable)
            self.at = self.at + 1
        return found

    def read_parts(self):
        found = []
        while self.here()[0] == "part":
            words = self.here()
            if len(words) != 2 or not is_name(words[1]) or words[1] in self.ended or len(found) == MOST_PARTS:
                self.refuse()
            self.at = self.at + 1
            found.append((words[1], self.read_body(0)))
            self.take_row(["end"])
            # Only now, so that no part does itself.
            self.ended[words[1]] = True
        return found

    def read_main(self):
        self.take_row(["main"])
        main = self.read_body(0)
        self.take_row(["end"])
        if self.at < len(self.rows):
            self.refuse()
        return main

    def read_body(self, depth):
        body = []
        while self.here() != ["end"] and self.here() != ["else"]:
            if self.so_far == MOST_STATEMENTS:
                self.refuse()
            self.so_far = self.so_far + 1
            body.append(self.read_statement(self.here(), depth))
        return body

    def read_statement(self, words, depth):
        if words[0] in ("if", "while"):
            return self.read_nest(words, depth)
        found = self.assignment(words) if len(words) == 3 else self.plain_statement(words)
        if found is None:
            self.refuse()
        self.at = self.at + 1
        return found

    def read_nest(self, words, depth):
        expr = self.known_expr(words[1]) if len(words) == 2 else None
        if expr is None or depth == MOST_DEPTH:
            self.refuse()
        self.at = self.at + 1
        body = self.read_body(depth + 1)
        if words[0] == "while":
            self.take_row(["end"])
            return ("while", expr, body)
        otherwise = []
        if self.here() == ["else"]:
            self.at = self.at + 1
            otherwise = self.read_body(depth + 1)
        self.take_row(["end"])
        return ("if", expr, body, otherwise)

    def assignment(self, words):
        target = self.known_expr(words[0])
        expr = self.known_expr(words[2])
        if words[1] != "=" or target is None or expr is None:
            return None
        if target[0] == "name":
            return ("set", target[1], expr)
        if target[0] == "at":
            return ("put", target[1], target[2], expr)
        return None

    def plain_statement(self, words):
        if words == ["stop"]:
            return ("stop",)
        if words == ["give", "way"]:
            return ("way",)
        if len(words) != 2:
            return None
        if words[0] == "ask" and words[1] in self.variables:
            return ("ask", words[1])
        if words[0] == "do" and words[1] in self.ended:
            return ("do", words[1])
        expr = self.known_expr(words[1])
        if words[0] == "tell" and expr is not None:
            return ("tell", expr)
        return None


def tree_of(text):
    reader = Reader([] if text == "" else text.split("\n"))
    variables = reader.read_variables()
    parts = reader.read_parts()
    return (variables, parts, reader.read_main())
