import random
import re
import unittest

from gatetown.errors import BadLine
from gatetown.reading import expr_of, tree_of

RESERVED = "num flag list part main end tell ask do if else while stop give way not yes no".split()


def is_name(text):
    return re.fullmatch("[a-z]{1,8}", text) is not None and text not in RESERVED


def expr_by_words(text):
    """An expression of [15] by taking its signs together from within, with no look at their order; None if none."""
    parts = []
    for token in re.findall("[a-z]+|[0-9]+|.|\n", text):
        if re.fullmatch("0|[1-9][0-9]{0,3}", token) and int(token) <= 4095:
            parts.append((("num", int(token)), 0))
        elif token in ["yes", "no"]:
            parts.append((("flag", token == "yes"), 0))
        else:
            parts.append(token)

    def is_expr(part):
        return isinstance(part, tuple)

    k = 0
    while k < len(parts):
        some = parts[k:k + 5]
        if len(some) == 5 and some[0] == "(" and some[4] == ")" and is_expr(some[1]) and is_expr(some[3]) \
                and isinstance(some[2], str) and some[2] in "+-&<=":
            new = ((some[2], some[1][0], some[3][0]), 1 + max(some[1][1], some[3][1]))
            parts[k:k + 5] = [new]
            k = 0
        elif len(some) >= 4 and some[0] == "not" and some[1] == "(" and is_expr(some[2]) and some[3] == ")":
            parts[k:k + 4] = [(("not", some[2][0]), 1 + some[2][1])]
            k = 0
        elif len(some) >= 4 and isinstance(some[0], str) and is_name(some[0]) and some[1] == "[" \
                and is_expr(some[2]) and some[3] == "]":
            parts[k:k + 4] = [(("at", some[0], some[2][0]), 1 + some[2][1])]
            k = 0
        elif isinstance(some[0], str) and is_name(some[0]) and some[1:2] != ["["]:
            parts[k] = (("name", some[0]), 0)
            k = 0
        else:
            k += 1
    if len(parts) == 1 and is_expr(parts[0]) and parts[0][1] <= 8:
        return parts[0][0]
    return None


def names_by(expr):
    if expr[0] in ["name", "at"]:
        return [expr[1]] + [name for one in expr[2:] for name in names_by(one)]
    return [name for one in expr[1:] if isinstance(one, tuple) for name in names_by(one)]


def statement_by(words, variables, ended):
    """A statement without an end of its own, or None."""
    def known(text):
        expr = expr_by_words(text)
        return expr if expr is not None and all(name in variables for name in names_by(expr)) else None

    if words == ["stop"]:
        return ("stop",)
    if words == ["give", "way"]:
        return ("way",)
    if len(words) == 2 and words[0] == "ask" and words[1] in variables:
        return ("ask", words[1])
    if len(words) == 2 and words[0] == "do" and words[1] in ended:
        return ("do", words[1])
    if len(words) == 2 and words[0] in ["tell", "if", "while"] and known(words[1]):
        return (words[0], known(words[1]))
    if len(words) == 3 and words[1] == "=" and known(words[0]) and known(words[2]):
        target = known(words[0])
        if target[0] == "name":
            return ("set", target[1], known(words[2]))
        if target[0] == "at":
            return ("put", target[1], target[2], known(words[2]))
    return None


def tree_by_words(text):
    """Points [15] and [16] by one walk with a pile of what is not ended yet: a tree, or a row's number."""
    rows = text.split("\n") if text else []
    variables, parts, main = [], [], None
    ended = []
    pile = []
    count = 0
    for k, row in enumerate(rows):
        words = re.fullmatch(" *([^ ]+(?: [^ ]+)*)", row)
        if words is None or main is not None and not pile:
            return k
        words = words[1].split(" ")
        told = [name for _, name, _ in variables]
        if not pile:
            kind = words[0]
            if kind in ["num", "flag"] and len(words) == 2 and not parts and len(variables) < 40 \
                    and is_name(words[1]) and words[1] not in told:
                variables.append((kind, words[1], 1))
            elif kind == "list" and len(words) == 3 and not parts and len(variables) < 40 and is_name(words[1]) \
                    and words[1] not in told and re.fullmatch("[1-9][0-9]?", words[2]):
                variables.append((kind, words[1], int(words[2])))
            elif kind == "part" and len(words) == 2 and len(parts) < 12 and is_name(words[1]) \
                    and words[1] not in ended:
                parts.append((words[1], []))
                pile.append((parts[-1], parts[-1][1]))
            elif words == ["main"]:
                main = []
                pile.append((("main",), main))
            else:
                return k
        elif words == ["end"]:
            opened = pile.pop()[0]
            if not pile and opened[0] != "main":
                ended.append(opened[0])
        elif words == ["else"]:
            opened, body = pile[-1]
            if len(pile) == 1 or opened[0] != "if" or body is opened[3]:
                return k
            pile[-1] = (opened, opened[3])
        else:
            found = statement_by(words, told, ended)
            count += 1
            if found is None or count > 200 or found[0] in ["if", "while"] and len(pile) == 9:
                return k
            if found[0] == "if":
                found = found + ([], [])
            elif found[0] == "while":
                found = found + ([],)
            pile[-1][1].append(found)
            if found[0] in ["if", "while"]:
                pile.append((found, found[2]))
    if main is None or pile:
        return len(rows)
    return (variables, parts, main)


def main_of(*rows):
    return "\n".join(["num a", "num b", "flag f", "list xs 9", "main"] + list(rows) + ["end"])


FIRST = 5


class ExprTest(unittest.TestCase):
    def test_each_kind(self):
        for text, expr in [
            ("0", ("num", 0)), ("7", ("num", 7)), ("4095", ("num", 4095)), ("yes", ("flag", True)),
            ("no", ("flag", False)), ("a", ("name", "a")), ("abcdefgh", ("name", "abcdefgh")),
            ("xs[3]", ("at", "xs", ("num", 3))), ("xs[ys[z]]", ("at", "xs", ("at", "ys", ("name", "z")))),
            ("(1+2)", ("+", ("num", 1), ("num", 2))), ("(a-2)", ("-", ("name", "a"), ("num", 2))),
            ("(a&b)", ("&", ("name", "a"), ("name", "b"))), ("(a<b)", ("<", ("name", "a"), ("name", "b"))),
            ("(a=b)", ("=", ("name", "a"), ("name", "b"))), ("not(yes)", ("not", ("flag", True))),
            ("not((a<1))", ("not", ("<", ("name", "a"), ("num", 1)))), ("not(not(f))", ("not", ("not", ("name", "f")))),
            ("((1+2)-xs[(a&3)])", ("-", ("+", ("num", 1), ("num", 2)), ("at", "xs", ("&", ("name", "a"), ("num", 3))))),
            ("yess", ("name", "yess")), ("nots", ("name", "nots")), ("x", ("name", "x")), ("at", ("name", "at")),
            ("set", ("name", "set")), ("name", ("name", "name")), ("put", ("name", "put")),
        ]:
            told = expr_of(text)
            self.assertEqual(told, expr, text)
            self.assertEqual(expr_by_words(text), expr, text)
            self.assertIs(type(told), tuple)
        self.assertIs(expr_of("yes")[1], True)
        self.assertIs(expr_of("no")[1], False)
        self.assertIs(type(expr_of("1")[1]), int)

    def test_texts_that_are_none(self):
        for text in ["", " ", "4096", "10000", "00", "01", "-1", "+1", "1 ", " 1", "1a", "a1", "A", "aB", "a_b",
                     "abcdefghi", "(1)", "((1+2))", "(1+2", "1+2)", "1+2", "(1+2+3)", "(1 + 2)", "(+2)", "(1+)", "()",
                     "(1*2)", "(1>2)", "(1==2)", "(1<=2)", "(1,2)", "[1]", "xs[]", "xs[1", "xs1]", "xs[1]]", "xs[1][2]",
                     "xs(1)", "xs[1)", "(1+2]", "not", "not(", "not()", "not(yes", "not yes", "not[yes]",
                     "not(yes)no", "yes[1]", "no(1)", "1[2]", "(a)[1]", "num", "flag[1]", "end", "(end+1)", "list[0]",
                     "not(1+2)", "yes(", "\n", "1\n", "(1\n+2)", "a" * 200, "(" * 200, "1" * 200, "(1+2)(3+4)",
                     "~", "a[b", "a]b", "way", "give", "stop", "main", "while", "(if+1)", "%", "xs[yes]no"]:
            self.assertIs(expr_of(text), None, text)
            self.assertIs(expr_by_words(text), None, text)

    def test_reserved_words_are_no_names(self):
        for word in RESERVED:
            expr = expr_of(word)
            self.assertEqual(expr, {"yes": ("flag", True), "no": ("flag", False)}.get(word), word)
            self.assertIs(expr_of(word + "[1]"), None)
            self.assertEqual(expr_of(word[:4] + "qqq"), ("name", word[:4] + "qqq"))

    def test_eight_brackets_and_nine(self):
        deep = [lambda text: "(1+" + text + ")", lambda text: "(" + text + "<1)", lambda text: "x[" + text + "]",
                lambda text: "not(" + text + ")"]
        source = random.Random(50)
        for kinds in [[wrap] * 9 for wrap in deep] + [[source.choice(deep) for _ in range(9)] for _ in range(40)]:
            text = "a"
            for count, wrap in enumerate(kinds, start=1):
                text = wrap(text)
                if count <= 8:
                    self.assertIsNot(expr_of(text), None, text)
                    self.assertEqual(expr_of(text), expr_by_words(text))
                else:
                    self.assertIs(expr_of(text), None, text)

    def test_brackets_beside_one_another(self):
        text = "a"
        for _ in range(4):
            text = "(" + text + "+" + text + ")"
        self.assertEqual(expr_of(text), expr_by_words(text))
        self.assertGreater(text.count("("), 8)

    def drawn_expr(self, source, depth):
        kind = source.randrange(9) if depth else source.randrange(3)
        if kind < 3:
            return source.choice(["0", "5", "4095", "yes", "no", "a", "b", "xs", "abcdefgh"])
        inner = self.drawn_expr(source, depth - 1)
        if kind < 4:
            return "xs[" + inner + "]"
        if kind < 5:
            return "not(" + inner + ")"
        return "(" + inner + source.choice("+-&<=") + self.drawn_expr(source, depth - 1) + ")"

    def test_against_the_words_of_the_document(self):
        source = random.Random(51)
        fine = 0
        for _ in range(4000):
            text = self.drawn_expr(source, source.choice([2, 3, 4, 8, 9]))
            if len(text) > 300:
                continue
            for _ in range(source.randrange(3)):
                k = source.randrange(len(text) + 1)
                text = text[:k] + source.choice(["", "", "(", ")", "[", "]", "+", "a", "0", "9", "no", "not", " "]) \
                    + text[k + source.randrange(2):]
            wanted = expr_by_words(text)
            self.assertEqual(expr_of(text), wanted, text)
            fine += wanted is not None
        self.assertGreater(fine, 1000)


class TreeTest(unittest.TestCase):
    def ask(self, text, tree):
        self.assertEqual(tree_of(text), tree)
        self.assertEqual(tree_by_words(text), tree)

    def stands(self, text):
        told = tree_of(text)
        self.assertEqual(told, tree_by_words(text))
        return told

    def refused(self, text, row):
        with self.assertRaises(BadLine) as caught:
            tree_of(text)
        self.assertEqual(caught.exception.row, row, text)
        self.assertIs(type(caught.exception), BadLine)
        self.assertIs(type(caught.exception.row), int)
        self.assertEqual(tree_by_words(text), row, text)

    # what stands

    def test_the_least_program(self):
        self.ask("main\nend", ([], [], []))
        told = tree_of("main\nend")
        self.assertEqual([type(part) for part in told], [list, list, list])
        self.assertIs(type(told), tuple)

    def test_variables(self):
        self.ask("num a\nflag b\nlist c 1\nlist d 99\nnum abcdefgh\nmain\nend",
                 ([("num", "a", 1), ("flag", "b", 1), ("list", "c", 1), ("list", "d", 99), ("num", "abcdefgh", 1)],
                  [], []))

    def test_each_statement(self):
        rows = ["a = (b+1)", "xs[a] = 5", "tell a", "ask b", "stop", "give way", "if f", "end", "if (a<b)", "tell 1",
                "else", "tell 2", "stop", "end", "while not(f)", "f = yes", "end"]
        tree = self.stands(main_of(*rows))
        a, b, f = ("name", "a"), ("name", "b"), ("name", "f")
        self.assertEqual(tree, (
            [("num", "a", 1), ("num", "b", 1), ("flag", "f", 1), ("list", "xs", 9)], [],
            [("set", "a", ("+", b, ("num", 1))), ("put", "xs", a, ("num", 5)), ("tell", a), ("ask", "b"), ("stop",),
             ("way",), ("if", f, [], []),
             ("if", ("<", a, b), [("tell", ("num", 1))], [("tell", ("num", 2)), ("stop",)]),
             ("while", ("not", f), [("set", "f", ("flag", True))])]))

    def test_parts(self):
        self.ask("num a\npart one\ntell a\nend\npart two\ndo one\ndo one\nend\npart none\nend\n"
                 "main\ndo two\ndo none\nend",
                 ([("num", "a", 1)], [("one", [("tell", ("name", "a"))]), ("two", [("do", "one"), ("do", "one")]),
                                      ("none", [])], [("do", "two"), ("do", "none")]))

    def test_one_name_for_a_variable_and_a_part(self):
        self.ask("num a\npart a\ntell a\nend\nmain\ndo a\nend",
                 ([("num", "a", 1)], [("a", [("tell", ("name", "a"))])], [("do", "a")]))

    def test_nested_statements(self):
        tree = self.stands(main_of("if f", "while f", "if f", "else", "tell 1", "end", "end", "else", "while f", "end",
                                   "tell 2", "end", "tell 3"))
        f = ("name", "f")
        self.assertEqual(tree[2], [
            ("if", f, [("while", f, [("if", f, [], [("tell", ("num", 1))])])],
             [("while", f, []), ("tell", ("num", 2))]), ("tell", ("num", 3))])

    def test_blanks_ahead(self):
        self.ask("  num a\n main\n          tell a\n                              end",
                 ([("num", "a", 1)], [], [("tell", ("name", "a"))]))

    def test_kinds_are_not_looked_at(self):
        self.stands(main_of("a = yes", "f = 5", "xs = xs", "a[1] = f", "f[no] = xs", "tell f", "ask xs", "ask f",
                            "if 5", "end", "while xs", "end", "tell (f+no)", "tell a[1]"))

    def test_lists_are_the_askers_own(self):
        text = main_of("if f", "end", "if f", "end", "while f", "end")
        one = tree_of(text)
        another = tree_of(text)
        bodies = [body for tree in [one, another] for statement in tree[2] for body in statement[2:]]
        self.assertEqual(len({id(body) for body in bodies + [one[0], one[1], one[2], another[0]]}), len(bodies) + 4)
        one[2][0][2].append(("stop",))
        one[0].clear()
        self.assertEqual(tree_of(text), another)

    # rows that can not stand

    def test_the_empty_text_and_texts_that_end_too_early(self):
        self.refused("", 0)
        self.refused("num a", 1)
        self.refused("main", 1)
        self.refused("num a\nmain\ntell a", 3)
        self.refused("main\nif yes\nend", 3)
        self.refused("main\nif yes\nelse", 3)
        self.refused("main\nwhile yes", 2)
        self.refused("part a\nend", 2)
        self.refused("part a", 1)
        self.refused("part a\nstop\nend\nmain\nstop", 5)

    def test_rows_behind_the_end(self):
        self.refused("main\nend\n", 2)
        self.refused("main\nend\n ", 2)
        self.refused("main\nend\nend", 2)
        self.refused("main\nend\nmain\nend", 2)
        self.refused("main\nend\npart a\nend", 2)
        self.refused("main\nend\nnum a", 2)
        self.refused("main\nif yes\nend\nend\nstop", 4)

    def test_rows_without_words_and_blanks(self):
        self.refused("\nmain\nend", 0)
        self.refused("main\n\nend", 1)
        self.refused("main\n   \nend", 1)
        self.refused("main \nend", 0)
        self.refused("main\nend ", 1)
        self.refused("num  a\nmain\nend", 0)
        self.refused("num a \nmain\nend", 0)
        self.refused(main_of("a =  5"), FIRST)
        self.refused(main_of("a  = 5"), FIRST)
        self.refused(main_of("tell  5"), FIRST)
        self.refused("main\n", 1)

    def test_statements_of_no_form(self):
        for row in ["a", "5", "a =", "= 5", "a = ", "a= 5", "a =5", "a=5", "a = 5 6", "a == 5", "a = b = 5", "a + 5",
                    "a = (b + 1)", "a = 4096", "5 = a", "yes = no", "(a+b) = 5", "not(f) = yes", "xs[1]", "xs[1] =",
                    "xs [1] = 5", "xs[ 1 ] = 5", "xs[1] = 5 5", "xs[] = 5", "xs[1][2] = 5", "xs[1 = 5", "xs[a] = c",
                    "xs[c] = a", "c[1] = 5", "c = 5", "a = c", "a = xs[c]", "a = c[1]", "tell", "tell 5 6", "tell c",
                    "tell (1)", "tell tell", "ask", "ask 5", "ask c", "ask xs[1]", "ask a b", "ask (a)", "do", "do a",
                    "do c", "do main", "do a b", "if", "if a b", "if c", "if (", "while", "while c", "while f f",
                    "stop 1", "stop stop", "give", "give way now", "way", "give a", "giveway", "else if f",
                    "else f", "else = 5", "end 1", "end end", "end = 5", "num c", "flag c", "list c 5", "part c",
                    "main", "main 1", "a := 5", "print 5", "Tell 5", "TELL 5", "yes", "not(f)", "if = 5", "tell = 5",
                    "tell a = 5", "num = 5", "while = 5", "a = if", "a = end", "a = 01", "a = 5;", "# a", "stop.",
                    "a = a1", "a1 = 5", "abcdefghi = 5", "a = abcdefghi"]:
            self.refused(main_of(row), FIRST)
            self.refused(main_of("tell 1", "if f", row, "end"), FIRST + 2)
            self.refused("num a\nnum b\nflag f\nlist xs 9\npart p\nwhile f\n" + row + "\nend\nend\nmain\nend", 6)

    def test_rows_of_no_form_at_the_top(self):
        for row in ["num", "num 5", "num a 5", "flag a 1", "num a b", "num A", "num a1", "num abcdefghi", "flag",
                    "flag f g", "list xs", "list", "list xs 0", "list xs 100", "list xs 01", "list xs 5 5",
                    "list xs ys", "list 5 5",
                    "list xs -1", "list abcdefghi 5", "part", "part 5", "part p q", "part A", "part abcdefghi",
                    "main x", "main main", "end", "else", "stop", "tell 5", "x = 5", "if yes", "var a", "num: a",
                    "Num a", "give way", "list xs 1000000000000000000000", "do x"]:
            self.refused(row + "\nmain\nend", 0)
            self.refused("num z\n" + row + "\nmain\nend", 1)
            self.refused("num z\npart o\nend\n" + row + "\nmain\nend", 3)
        for word in RESERVED:
            for kind, more in [("num ", ""), ("flag ", ""), ("list ", " 5"), ("part ", "")]:
                self.refused("num z\n" + kind + word + more + "\nmain\nend", 1)

    def test_variables_stand_ahead_of_parts(self):
        self.refused("part p\nend\nnum a\nmain\nend", 2)
        self.refused("num b\npart p\nend\nlist a 5\nmain\nend", 3)
        self.refused("num b\npart p\nnum a\nend\nmain\nend", 2)

    def test_names_told_nowhere_ahead(self):
        self.refused("main\ntell a\nend", 1)
        self.refused("num b\npart p\ntell a\nend\nmain\nend", 2)
        self.refused("main\ndo p\nend", 1)
        self.refused("part p\ndo q\nend\npart q\nend\nmain\nend", 1)
        self.refused("part p\ndo p\nend\nmain\nend", 1)
        self.refused("part p\nif yes\ndo p\nend\nend\nmain\ndo p\nend", 2)
        self.refused("part p\nend\nmain\ntell p\nend", 3)
        self.refused("num a\nmain\ndo a\nend", 2)

    def test_names_told_twice(self):
        self.refused("num a\nnum a\nmain\nend", 1)
        self.refused("num a\nflag b\nlist a 5\nmain\nend", 2)
        self.refused("part p\nend\npart q\nend\npart p\nend\nmain\nend", 4)
        self.stands("num a\nflag b\npart a\nend\npart b\nend\nmain\nend")

    def test_else(self):
        self.refused(main_of("if f", "else", "else", "end"), FIRST + 2)
        self.refused(main_of("if f", "else", "tell 1", "else", "end"), FIRST + 3)
        self.refused(main_of("while f", "else", "end"), FIRST + 1)
        self.refused(main_of("else", "end"), FIRST)
        self.refused(main_of("if f", "end", "else", "end"), FIRST + 2)
        self.refused(main_of("if f", "while f", "else", "end", "end"), FIRST + 2)
        self.refused(main_of("if f", "else now", "end"), FIRST + 1)
        self.refused("part p\nelse\nend\nmain\nend", 1)
        self.stands(main_of("if f", "if f", "else", "end", "else", "end"))

    # bounds

    def test_eight_brackets_and_nine(self):
        eight = "a"
        for _ in range(8):
            eight = "(" + eight + "+1)"
        nine = "(" + eight + "+1)"
        for row, more in [("a = {}", ""), ("tell {}", ""), ("xs[1] = {}", ""), ("if {}", "end"), ("while {}", "end")]:
            rest = [more] if more else []
            self.stands(main_of(*[row.format(eight)] + rest))
            self.refused(main_of(*[row.format(nine)] + rest), FIRST)
        seven = eight[1:-3]
        self.stands(main_of("xs[" + seven + "] = " + eight))
        self.refused(main_of("xs[" + eight + "] = 5"), FIRST)

    def test_eight_ifs_and_whiles_and_nine(self):
        source = random.Random(52)
        for kinds in [["if"] * 9, ["while"] * 9] + [[source.choice(["if", "while"]) for _ in range(9)]
                                                    for _ in range(10)]:
            rows = [kind + " f" for kind in kinds]
            self.stands(main_of(*rows[:8] + ["end"] * 8))
            self.refused(main_of(*rows + ["end"] * 9), FIRST + 8)
            self.stands(main_of(*(rows[:8] + ["end"] * 8) * 2))
        deep = ["if f", "else"] * 8
        self.stands(main_of(*deep + ["end"] * 8))
        self.refused(main_of(*deep + ["while f", "end"] + ["end"] * 8), FIRST + 16)
        self.refused("flag f\npart p\n" + "if f\n" * 9 + "end\n" * 10 + "main\nend", 10)

    def test_40_variables_and_one_more(self):
        names = ["v" + chr(97 + k // 26) + chr(97 + k % 26) for k in range(41)]
        kinds = ["num {}", "flag {}", "list {} 2"]
        rows = [kinds[k % 3].format(name) for k, name in enumerate(names)]
        self.assertEqual(len(self.stands("\n".join(rows[:40] + ["main", "end"]))[0]), 40)
        self.refused("\n".join(rows + ["main", "end"]), 40)
        self.refused("\n".join(rows[:40] + ["num", "main", "end"]), 40)

    def test_12_parts_and_one_more(self):
        rows = []
        for k in range(13):
            rows.extend(["part p" + chr(97 + k), "stop", "end"])
        self.assertEqual(len(self.stands("\n".join(rows[:36] + ["main", "end"]))[1]), 12)
        self.refused("\n".join(rows + ["main", "end"]), 36)

    def test_200_statements_and_one_more(self):
        self.assertEqual(len(self.stands(main_of(*["tell 1"] * 200))[2]), 200)
        self.refused(main_of(*["tell 1"] * 201), FIRST + 200)
        nested = ["if f", "tell 1", "else", "tell 2", "end", "while f", "stop", "end"] * 40
        self.stands(main_of(*nested))
        self.refused(main_of(*nested + ["stop"]), FIRST + 320)
        self.refused(main_of(*nested + ["if f", "end"]), FIRST + 320)
        self.refused("flag f\npart p\n" + "stop\n" * 150 + "end\nmain\n" + "stop\n" * 51 + "end", 154 + 50)
        self.stands("flag f\npart p\n" + "stop\n" * 150 + "end\nmain\n" + "stop\n" * 50 + "end")

    def test_longer_texts_are_not_refused_for_their_length(self):
        self.stands(main_of("tell " + "(1+" * 8 + "1" + ")" * 8))
        self.stands("main\n" + " " * 300 + "stop\nend")
        text = "flag f\nmain\n" + "if f\nelse\nend\n" * 190 + "end"
        self.assertGreater(text.count("\n"), 400)
        self.stands(text)

    # the first row

    def test_the_first_row_that_can_not_stand(self):
        self.refused("num a\nnum a\nnum A\nmain\ntell q\nend", 1)
        self.refused("main\ntell q\ntell\nend\nend", 1)
        self.refused("part p\ndo p\nend\nmain\nelse\nend", 1)
        self.refused(main_of("tell 1", "tell q", "if", "tell 4096"), FIRST + 1)

    def drawn_body(self, source, depth, ended):
        exprs = ["a", "5", "xs[a]", "(a+b)", "(a<3)", "f", "yes", "not(f)", "xs[(a&7)]"]
        rows = []
        for _ in range(source.randrange(4)):
            kind = source.randrange(10)
            expr = source.choice(exprs)
            pad = " " * source.randrange(4)
            if kind < 2 and depth < 9:
                rows.append(pad + "if " + expr)
                rows += self.drawn_body(source, depth + 1, ended)
                if source.randrange(2):
                    rows.append(pad + "else")
                    rows += self.drawn_body(source, depth + 1, ended)
                rows.append("end")
            elif kind < 3 and depth < 9:
                rows.append("while " + expr)
                rows += self.drawn_body(source, depth + 1, ended)
                rows.append(pad + "end")
            elif kind < 4 and ended:
                rows.append(pad + "do " + source.choice(ended))
            else:
                rows.append(pad + source.choice(["a = " + expr, "f = " + expr, "xs[" + expr + "] = b", "tell " + expr,
                                                 "ask a", "stop", "give way"]))
        return rows

    def drawn_text(self, source):
        rows = ["num a", "num b", "flag f", "list xs 12"]
        ended = []
        for name in ["p", "q", "a"][:source.randrange(4)]:
            rows += ["part " + name] + self.drawn_body(source, 0, ended) + ["end"]
            ended.append(name)
        rows += ["main"] + self.drawn_body(source, 0, ended) + self.drawn_body(source, 0, ended) + ["end"]
        for _ in range(source.choice([0, 1, 1, 2, 3])):
            k = source.randrange(len(rows) + 1)
            new = source.choice(["end", "else", "main", "if f", "while f", "part p", "part r", "num c", "num a", "do q",
                                 "do p", "do r", "tell c", "", "stop ", "tell 4096", "stop", None, None, None])
            if new is None:
                del rows[k - 1 if k else 0]
            elif source.randrange(2) and k < len(rows):
                rows[k] = new
            else:
                rows.insert(k, new)
        return "\n".join(rows)

    def test_against_the_words_of_the_document(self):
        source = random.Random(53)
        counts = [0, 0]
        for _ in range(3000):
            text = self.drawn_text(source)
            wanted = tree_by_words(text)
            if isinstance(wanted, int):
                self.refused(text, wanted)
            else:
                self.assertEqual(tree_of(text), wanted, text)
            counts[isinstance(wanted, int)] += 1
        self.assertGreater(min(counts), 500)


if __name__ == "__main__":
    unittest.main()
