import copy
import random
import unittest

from gatetown.errors import BadKind
from gatetown.kinds import kind_of, looked, statements
from gatetown.reading import expr_of, tree_of

VARIABLES = [("num", "a", 1), ("flag", "f", 1), ("list", "xs", 9), ("num", "b", 1), ("flag", "g", 1), ("list", "ys", 1)]
HEAD = "num a\nflag f\nlist xs 9\nnum b\nflag g\nlist ys 1\n"

NUMS = ["0", "4095", "a", "b", "xs[0]", "ys[a]", "xs[ys[b]]", "(a+1)", "(1-b)", "(a&xs[2])", "((a+b)-(1&2))",
        "xs[(a+1)]"]
FLAGS = ["yes", "no", "f", "g", "(a<b)", "(a=1)", "(xs[0]<(a+b))", "not(f)", "not(yes)", "not((a<b))", "not(not(g))"]
NEITHER = ["xs", "ys", "xs[f]", "xs[yes]", "xs[xs]", "xs[(a<b)]", "a[0]", "f[0]", "a[f]", "(f+a)", "(a+f)", "(yes-1)",
           "(1&no)", "(xs+1)", "(1+ys)", "(f<a)", "(a<f)", "(f=g)", "(yes=no)", "(a=f)", "(xs=ys)", "(xs<a)",
           "not(a)", "not(1)", "not(xs)", "not(xs[0])", "((a<b)+1)", "((f+1)<2)", "not((f=g))", "xs[a[0]]",
           "(1+(f&1))", "((1<2)<3)", "((1=2)=3)", "not((a+b))"]


def kind_by_words(variables, expr):
    """Point [17], word by word."""
    head = expr[0]
    if head in ["num", "flag"]:
        return head
    told = {name: kind for kind, name, _ in variables}
    if head == "name":
        return told[expr[1]] if told[expr[1]] in ["num", "flag"] else None
    inner = [kind_by_words(variables, one) for one in expr[1:] if isinstance(one, tuple)]
    if head == "at":
        return "num" if told[expr[1]] == "list" and inner == ["num"] else None
    if head == "not":
        return "flag" if inner == ["flag"] else None
    if inner != ["num", "num"]:
        return None
    return "num" if head in ["+", "-", "&"] else "flag"


def fits_by_words(variables, statement):
    told = {name: kind for kind, name, _ in variables}
    kinds = [kind_by_words(variables, one) for one in statement[1:] if isinstance(one, tuple)]
    return {"set": lambda: told[statement[1]] in ["num", "flag"] and kinds == [told[statement[1]]],
            "put": lambda: told[statement[1]] == "list" and kinds == ["num", "num"],
            "tell": lambda: kinds == ["num"], "ask": lambda: told[statement[1]] == "num",
            "if": lambda: kinds == ["flag"], "while": lambda: kinds == ["flag"]}.get(statement[0], lambda: True)()


def main_of(rows):
    return tree_of(HEAD + "\n".join(["main"] + rows + ["end"]))


def closed(row):
    return [row, "end"] if row.split()[0] in ["if", "while"] else [row]


class KindTest(unittest.TestCase):
    def test_each_kind_of_expression(self):
        for texts, kind in [(NUMS, "num"), (FLAGS, "flag"), (NEITHER, None)]:
            for text in texts:
                expr = expr_of(text)
                before = (copy.deepcopy(VARIABLES), copy.deepcopy(expr))
                self.assertEqual(kind_of(VARIABLES, expr), kind, text)
                self.assertEqual(kind_by_words(VARIABLES, expr), kind, text)
                self.assertEqual((VARIABLES, expr), before)

    def test_joins_of_each_two(self):
        for one in [("num", 1), ("flag", True), ("name", "a"), ("name", "f"), ("name", "xs")]:
            for another in [("num", 1), ("flag", False), ("name", "b"), ("name", "g"), ("name", "ys")]:
                nums = one in [("num", 1), ("name", "a")] and another in [("num", 1), ("name", "b")]
                for join, kind in [("+", "num"), ("-", "num"), ("&", "num"), ("<", "flag"), ("=", "flag")]:
                    self.assertEqual(kind_of(VARIABLES, (join, one, another)), kind if nums else None)

    def test_without_variables(self):
        self.assertEqual(kind_of([], expr_of("(1+2)")), "num")
        self.assertEqual(kind_of([], expr_of("not(yes)")), "flag")

    def drawn_expr(self, source, depth):
        kind = source.randrange(9) if depth else source.randrange(3)
        if kind < 3:
            return source.choice(["0", "5", "yes", "a", "b", "f", "a", "b", "xs"])
        inner = self.drawn_expr(source, depth - 1)
        if kind < 4:
            return source.choice(["xs", "xs", "ys", "a"]) + "[" + inner + "]"
        if kind < 5:
            return "not(" + inner + ")"
        return "(" + inner + source.choice("+-&<=") + self.drawn_expr(source, depth - 1) + ")"

    def test_against_the_words_of_the_document(self):
        source = random.Random(61)
        counts = {}
        for _ in range(4000):
            expr = expr_of(self.drawn_expr(source, source.choice([1, 1, 2, 2, 3, 5])))
            kind = kind_by_words(VARIABLES, expr)
            self.assertEqual(kind_of(VARIABLES, expr), kind, expr)
            counts[kind] = counts.get(kind, 0) + 1
        self.assertGreater(min(counts.values()), 100)
        self.assertEqual(len(counts), 3)


class LookedTest(unittest.TestCase):
    def fits(self, rows):
        tree = main_of(rows)
        before = copy.deepcopy(tree)
        self.assertIs(looked(tree), True, rows)
        self.assertEqual(tree, before)

    def refused(self, tree, place):
        before = copy.deepcopy(tree)
        with self.assertRaises(BadKind) as caught:
            looked(tree)
        self.assertEqual(caught.exception.place, place)
        self.assertIs(type(caught.exception), BadKind)
        self.assertIs(type(caught.exception.place), int)
        self.assertEqual(tree, before)

    def test_what_fits(self):
        self.fits([])
        for expr in NUMS:
            for row in ["a = {}", "tell {}", "xs[1] = {}", "xs[{}] = 1"]:
                self.fits([row.format(expr)])
        for expr in FLAGS:
            for row in ["f = {}", "if {}", "while {}"]:
                self.fits(closed(row.format(expr)))
        self.fits(["ask a", "ask b", "stop", "give way"])

    def test_what_does_not_fit(self):
        wrong = []
        for expr in FLAGS + NEITHER:
            wrong += [row.format(expr) for row in ["a = {}", "tell {}", "xs[1] = {}", "xs[{}] = 1"]]
        for expr in NUMS + NEITHER:
            wrong += [row.format(expr) for row in ["f = {}", "if {}", "while {}"]]
        for expr in NUMS + FLAGS + NEITHER:
            wrong += [row.format(expr) for row in ["xs = {}", "a[0] = {}", "f[0] = {}", "f[{}] = 0"]]
        wrong += ["ask f", "ask xs", "xs[yes] = 1", "xs[1] = yes", "xs[f] = f"]
        for row in wrong:
            self.refused(main_of(closed(row)), 0)
            self.refused(main_of(["a = 1", "tell a"] + closed(row)), 2)

    def test_do_stop_and_way_fit(self):
        tree = tree_of("part p\nstop\nend\nmain\ndo p\nstop\ngive way\nend")
        self.assertIs(looked(tree), True)

    def test_the_first_one_at_fault(self):
        self.refused(main_of(["tell 1", "tell f", "tell 2", "tell g"]), 1)
        self.refused(main_of(["if 5", "tell f", "end"]), 0)
        self.refused(main_of(["if f", "tell f", "else", "tell g", "end"]), 1)

    def test_counted_through_all(self):
        rows = ["part p", "tell 1", "if f", "tell 2", "else", "while g", "tell 3", "end", "tell 4", "end", "end",
                "part q", "end", "part r", "do p", "end", "main", "while f", "if g", "tell 5", "else", "tell 6", "end",
                "tell 7", "end", "tell 8", "end"]
        places = [place for place, row in enumerate(rows) if row.split()[0] in ["tell", "if", "while", "do"]]
        self.assertIs(looked(tree_of(HEAD + "\n".join(rows))), True)
        for number, place in enumerate(places):
            word = rows[place].split()[0]
            if word != "do":
                wrong = rows[:place] + [word + " xs"] + rows[place + 1:]
                self.refused(tree_of(HEAD + "\n".join(wrong)), number)
                both = [row if row.split()[0] != "tell" or k < place else "tell xs" for k, row in enumerate(wrong)]
                self.refused(tree_of(HEAD + "\n".join(both)), number)

    def test_against_the_words_of_the_document(self):
        source = random.Random(62)
        exprs = ["a", "5", "f", "yes", "(a<b)", "xs[a]", "(a+b)", "not(f)", "xs"]
        counts = [0, 0]
        for _ in range(1500):
            rows = []
            depth = 0
            for _ in range(source.randrange(1, 9)):
                expr = source.choice(exprs)
                row = source.choice(["a = a", "f = f", "tell a", "xs[a] = b", "tell 1", "while f", "if f", "ask a",
                                     "f = " + expr, "tell " + expr, "a = " + expr, "stop", "if (a<1)", "if " + expr])
                depth += row.split()[0] in ["if", "while"]
                rows.append(row)
            tree = main_of(rows + ["end"] * depth)
            wrong = [k for k, one in enumerate(statements(tree)) if not fits_by_words(tree[0], one)]
            if wrong:
                self.refused(tree, wrong[0])
            else:
                self.assertIs(looked(tree), True)
            counts[bool(wrong)] += 1
        self.assertGreater(min(counts), 200)


class StatementsTest(unittest.TestCase):
    def test_none(self):
        told = statements(([], [], []))
        self.assertEqual(told, [])
        self.assertIs(type(told), list)

    def test_the_order_and_the_trees_own(self):
        tree = tree_of(HEAD + "part p\ntell 1\nif f\ntell 2\nelse\nwhile g\ntell 3\nend\ntell 4\nend\nend\n"
                       "part q\nend\npart r\nstop\nend\n"
                       "main\nwhile f\nif g\nelse\ntell 5\nend\ntell 6\nend\ntell 7\nend")
        before = copy.deepcopy(tree)
        p = tree[1][0][1]
        main = tree[2]
        wanted = [p[0], p[1], p[1][2][0], p[1][3][0], p[1][3][0][2][0], p[1][3][1], tree[1][2][1][0],
                  main[0], main[0][2][0], main[0][2][0][3][0], main[0][2][1], main[1]]
        told = statements(tree)
        self.assertEqual(len(told), len(wanted))
        for one, another in zip(told, wanted):
            self.assertIs(one, another)
        self.assertEqual([one[1][1] for one in told if one[0] == "tell"], [1, 2, 3, 4, 5, 6, 7])
        self.assertEqual(tree, before)

    def test_the_list_is_the_askers_own(self):
        tree = main_of(["tell 1", "tell 2"])
        told = statements(tree)
        self.assertIsNot(told, tree[2])
        told.clear()
        self.assertEqual(len(tree[2]), 2)
        self.assertEqual(len(statements(tree)), 2)

    def test_200_statements(self):
        tree = main_of(["tell 1"] * 200)
        self.assertEqual(statements(tree), [("tell", ("num", 1))] * 200)


if __name__ == "__main__":
    unittest.main()
