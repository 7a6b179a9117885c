import copy
import random
import unittest

from gatetown.kinds import looked
from gatetown.meaning import meant
from gatetown.reading import tree_of
from drawn import EDGES, drawn_given, drawn_tree, flags_in, lists_in, meant_by_words, signed, tree_with

ZEROS = {"a": 0, "b": 0, "c": 0, "f": 0, "g": 0, "xs": [0] * 4, "ys": [0] * 99}


def cells_with(**values):
    cells = copy.deepcopy(ZEROS)
    cells.update(values)
    return cells


def tree_from(text):
    tree = tree_of(text)
    looked(tree)
    return tree


class MeaningCase(unittest.TestCase):
    def ask(self, tree, given, most):
        before = copy.deepcopy((tree, given))
        answer = meant(tree, given, most)
        self.assertEqual((tree, given), before)
        self.assertEqual([type(part) for part in answer], [list, str, dict, list])
        self.assertEqual(flags_in(answer), [])
        self.assertEqual(answer, meant_by_words(tree, given, most))
        found = lists_in(answer)
        self.assertEqual(len({id(one) for one in found}), len(found))
        return answer

    def told(self, given, *rows):
        told, end, _, _ = self.ask(tree_with(*rows), given, 1000)
        self.assertEqual(end, "ended")
        return told


class ExpressionTest(MeaningCase):
    def test_sums_differences_and_common_figures(self):
        for one in EDGES:
            for another in EDGES:
                told = self.told([one, another], "ask a", "ask b", "tell (a+b)", "tell (a-b)", "tell (a&b)")
                self.assertEqual(told, [(one + another) % 65536, (one - another) % 65536, one & another])

    def test_numbers(self):
        self.assertEqual(self.told([], "tell 0", "tell 1", "tell 4095", "tell (0-1)", "tell ((0-1)+1)"),
                         [0, 1, 4095, 65535, 0])
        self.assertEqual(self.told([], "tell (4095+4095)", "tell ((0-1)&4095)"), [8190, 4095])

    def flag(self, given, expr):
        told = self.told(given, "ask a", "ask b", "if " + expr, "tell 1", "else", "tell 0", "end")
        kept = self.ask(tree_with("ask a", "ask b", "f = " + expr), given, 9)[2]["f"]
        self.assertEqual(told, [kept])
        return kept

    def test_less_and_alike(self):
        for one in EDGES:
            for another in EDGES:
                self.assertEqual(self.flag([one, another], "(a<b)"), int(signed(one) < signed(another)))
                self.assertEqual(self.flag([one, another], "(a=b)"), int(one == another))

    def test_less_at_the_edges_in_figures(self):
        rising = [32768, 32769, 65534, 65535, 0, 1, 32766, 32767]
        for place, one in enumerate(rising):
            for other_place, another in enumerate(rising):
                self.assertEqual(self.flag([one, another], "(a<b)"), int(place < other_place))

    def test_yes_no_and_not(self):
        for expr, flag in [("yes", 1), ("no", 0), ("not(yes)", 0), ("not(no)", 1), ("not(not(yes))", 1), ("f", 0),
                           ("not(f)", 1), ("not((a<b))", 1), ("not((a=b))", 0)]:
            self.assertEqual(self.flag([5, 5], expr), flag, expr)

    def test_expressions_within_one_another(self):
        self.assertEqual(self.told([3], "ask a", "xs[1] = 2", "xs[2] = 7", "tell ((a+xs[xs[1]])-(xs[2]&(a+a)))"), [4])
        self.assertEqual(self.told([], "xs[3] = 1", "xs[1] = 9", "tell xs[xs[xs[0]]]", "tell xs[xs[3]]"), [0, 9])


class ListTest(MeaningCase):
    def test_places_told_and_set(self):
        for name, size in [("xs", 4), ("ys", 99)]:
            for place in [0, 1, size - 1]:
                rows = ["ask a", "ask b", name + "[a] = b", "tell " + name + "[a]", "b = " + name + "[a]", "tell b"]
                told, end, cells, _ = self.ask(tree_with(*rows), [place, 77], 99)
                self.assertEqual((told, end), ([77, 77], "ended"))
                self.assertEqual(cells[name], [77 if k == place else 0 for k in range(size)])

    def test_places_that_fault(self):
        for name, size in [("xs", 4), ("ys", 99)]:
            for place in [size, size + 1, 4095, 32767, 32768, 32769, 65535]:
                for row in ["tell {}[a]", "b = {}[a]", "{}[a] = 5", "{}[0] = {}[a]", "tell (1+{}[a])", "tell ({}[a]+1)",
                            "if (1<{}[a])\nend", "while not(({}[a]=0))\nend", "xs[{}[a]] = 1", "tell xs[{}[a]]",
                            "{}[a] = {}[a]"]:
                    rows = ["ask a", "tell 8", row.replace("{}", name), "tell 9"]
                    told, end, cells, steps = self.ask(tree_with(*rows), [place], 99)
                    self.assertEqual((told, end, len(steps)), ([8], "fault", 3))
                    self.assertEqual(cells, cells_with(a=place))

    def test_a_list_of_one_place(self):
        tree = tree_from("list x 1\nnum a\nmain\nask a\nx[a] = 6\ntell x[a]\nend")
        self.assertEqual(self.ask(tree, [0], 9)[:3], ([6], "ended", {"x": [6], "a": 0}))
        self.assertEqual(self.ask(tree, [1], 9)[:3], ([], "fault", {"x": [0], "a": 1}))
        self.assertEqual(self.ask(tree, [65535], 9)[1], "fault")

    def test_a_fault_ends_all(self):
        tree = tree_from("list x 2\npart p\ntell 1\ntell x[2]\ntell 2\nend\nmain\nwhile yes\nif yes\ndo p\n"
                         "end\nend\nend")
        self.assertEqual(self.ask(tree, [], 99)[:2], ([1], "fault"))


class StatementTest(MeaningCase):
    def test_first_values(self):
        told, end, cells, steps = self.ask(tree_with(), [], 9)
        self.assertEqual((told, end, cells, steps), ([], "ended", ZEROS, []))

    def test_set(self):
        cells = self.ask(tree_with("a = 5", "b = (a+a)", "f = yes", "g = f", "f = no"), [], 9)[2]
        self.assertEqual(cells, cells_with(a=5, b=10, g=1))

    def test_put_takes_values_from_ahead(self):
        rows = ["xs[0] = 2", "xs[xs[0]] = (xs[0]+1)", "xs[xs[2]] = xs[xs[0]]"]
        self.assertEqual(self.ask(tree_with(*rows), [], 9)[2]["xs"], [2, 0, 3, 3])

    def test_ask(self):
        rows = ["ask a", "tell a", "ask a", "tell a", "ask b", "tell b"]
        self.assertEqual(self.told([7, 65535, 0, 4], *rows), [7, 65535, 0])
        self.assertEqual(self.told([7], *rows), [7, 65535, 65535])
        self.assertEqual(self.told([], *rows), [65535] * 3)

    def test_if_and_else(self):
        rows = ["ask a", "if (a<3)", "tell 1", "else", "tell 2", "end", "if (a=0)", "tell 3", "end", "tell 4"]
        self.assertEqual(self.told([0], *rows), [1, 3, 4])
        self.assertEqual(self.told([2], *rows), [1, 4])
        self.assertEqual(self.told([3], *rows), [2, 4])
        self.assertEqual(self.told([], "if yes", "else", "tell 1", "end", "if no", "tell 2", "else", "end"), [])

    def test_while(self):
        rows = ["ask a", "while (b<a)", "tell b", "b = (b+1)", "end", "tell 9"]
        self.assertEqual(self.told([0], *rows), [9])
        self.assertEqual(self.told([65535], *rows), [9])
        self.assertEqual(self.told([3], *rows), [0, 1, 2, 9])

    def test_whiles_and_ifs_within_one_another(self):
        rows = ["while (a<4)", "if ((a&1)=1)", "b = 0", "while (b<a)", "tell b", "b = (b+1)", "end", "else",
                "if (a=2)", "tell 50", "end", "end", "a = (a+1)", "end", "if yes", "while (c<2)", "c = (c+1)", "end",
                "tell c", "end"]
        self.assertEqual(self.told([], *rows), [0, 50, 0, 1, 2, 2])

    def test_parts(self):
        text = "num n\npart n\nn = (n+1)\ntell n\nend\npart two\ndo n\ndo n\nend\npart none\nend\npart four\ndo two\n" \
               "do none\ndo two\nend\nmain\ndo four\ntell 100\ndo n\nend"
        self.assertEqual(self.ask(tree_from(text), [], 99)[0], [1, 2, 3, 4, 100, 5])

    def test_stop(self):
        for rows in [["tell 1", "stop", "tell 2"], ["tell 1", "if yes", "stop", "end", "tell 2"],
                     ["while yes", "tell 1", "stop", "end", "tell 2"],
                     ["tell 1", "if no", "else", "while yes", "if yes", "stop", "end", "end", "end", "tell 2"]]:
            self.assertEqual(self.told([], *rows), [1])
        text = "part s\ntell 1\nstop\ntell 2\nend\npart t\ndo s\ntell 3\nend\nmain\ndo t\ntell 4\nend"
        told, end, cells, steps = self.ask(tree_from(text), [], 99)
        self.assertEqual((told, end, cells), ([1], "ended", {}))
        self.assertEqual([step[0] for step in steps], [5, 3, 0, 1])

    def test_give_way_does_nothing(self):
        told, end, cells, steps = self.ask(tree_with("a = 3", "give way", "tell a"), [], 9)
        self.assertEqual((told, end, cells, len(steps)), ([3], "ended", cells_with(a=3), 3))


class MostTest(MeaningCase):
    def ends(self, tree, given=()):
        return [self.ask(tree, list(given), most)[1] for most in range(6)]

    def test_none(self):
        self.assertEqual(self.ask(tree_with(), [], 0), ([], "ended", ZEROS, []))
        self.assertEqual(self.ask(tree_with("tell 1"), [], 0), ([], "going", ZEROS, []))
        self.assertEqual(self.ask(tree_with("stop"), [], 0), ([], "going", ZEROS, []))

    def test_as_many_as_there_are(self):
        self.assertEqual(self.ends(tree_with("tell 1", "tell 2", "tell 3")), ["going"] * 3 + ["ended"] * 3)
        self.assertEqual([self.ask(tree_with("tell 1", "tell 2"), [], most)[0] for most in range(4)],
                         [[], [1], [1, 2], [1, 2]])

    def test_stop_leaves_none_to_do(self):
        self.assertEqual(self.ends(tree_with("tell 1", "stop", "tell 3")), ["going"] * 2 + ["ended"] * 4)

    def test_each_if_and_each_look_is_one(self):
        self.assertEqual(self.ends(tree_with("if yes", "tell 1", "end")), ["going"] * 2 + ["ended"] * 4)
        self.assertEqual(self.ends(tree_with("if no", "tell 1", "end")), ["going"] + ["ended"] * 5)
        self.assertEqual(self.ends(tree_with("while no", "tell 1", "end")), ["going"] + ["ended"] * 5)
        self.assertEqual(self.ends(tree_with("while (a<1)", "a = 1", "end")), ["going"] * 3 + ["ended"] * 3)
        self.assertEqual(self.ends(tree_with("while yes", "end")), ["going"] * 6)
        self.assertEqual(len(self.ask(tree_with("while yes", "end"), [], 50)[3]), 50)

    def test_a_part_is_done_by_one(self):
        tree = tree_from("part p\nend\npart q\ndo p\nend\nmain\ndo q\nend")
        self.assertEqual(self.ends(tree), ["going"] * 2 + ["ended"] * 4)

    def test_at_a_statement_that_faults(self):
        self.assertEqual(self.ends(tree_with("tell 1", "tell xs[4]", "tell 2")), ["going"] * 2 + ["fault"] * 4)
        self.assertEqual(self.ends(tree_with("xs[4] = 1")), ["going"] + ["fault"] * 5)
        self.assertEqual(self.ends(tree_with("while (xs[9]=0)", "end")), ["going"] + ["fault"] * 5)


class StepTest(MeaningCase):
    def test_entry_by_entry(self):
        rows = ["ask a", "while (b<a)", "xs[b] = (b+5)", "tell xs[b]", "b = (b+1)", "end", "f = (a=b)"]
        answer = self.ask(tree_with(*rows), [2], 99)
        one, two = [5, 0, 0, 0], [5, 6, 0, 0]
        self.assertEqual(answer[3], [
            (0, ZEROS, []),
            (1, cells_with(a=2), []),
            (2, cells_with(a=2), []),
            (3, cells_with(a=2, xs=one), []),
            (4, cells_with(a=2, xs=one), [5]),
            (1, cells_with(a=2, xs=one, b=1), [5]),
            (2, cells_with(a=2, xs=one, b=1), [5]),
            (3, cells_with(a=2, xs=two, b=1), [5]),
            (4, cells_with(a=2, xs=two, b=1), [5, 6]),
            (1, cells_with(a=2, xs=two, b=2), [5, 6]),
            (5, cells_with(a=2, xs=two, b=2), [5, 6]),
        ])
        self.assertEqual(answer[:3], ([5, 6], "ended", cells_with(a=2, b=2, f=1, xs=two)))

    def test_numbers_go_by_where_statements_stand(self):
        text = "part p\ngive way\nif yes\ngive way\nelse\ngive way\nend\nend\nmain\ngive way\ndo p\nwhile no\n" \
               "give way\nend\nif no\ngive way\nelse\ngive way\nend\ngive way\nend"
        steps = self.ask(tree_from(text), [], 99)[3]
        self.assertEqual([step[0] for step in steps], [4, 5, 0, 1, 2, 6, 8, 10, 11])

    def test_one_and_the_same_statement_twice(self):
        body = [("tell", ("num", 1)), ("way",)]
        tree = ([], [("p", body), ("q", body)], [("do", "p"), ("do", "q"), ("if", ("flag", True), body, body)] + body)
        self.assertEqual([step[0] for step in self.ask(tree, [], 99)[3]], [4, 0, 1, 5, 2, 3, 6, 7, 8, 11, 12])

    def test_each_told_list_is_one_of_its_own(self):
        tree = tree_with("xs[0] = 1", "tell 5", "tell 6")
        answer = meant(tree, [], 99)
        again = copy.deepcopy(answer)
        answer[3][0][1]["xs"].append(9)
        answer[3][1][2].append(9)
        self.assertEqual(answer[2], again[2])
        self.assertEqual(answer[3][2], again[3][2])
        self.assertEqual(meant(tree, [], 99), again)


class DrawnTest(MeaningCase):
    def test_against_the_words_of_the_document(self):
        source = random.Random(81)
        ends = {}
        for _ in range(800):
            answer = self.ask(drawn_tree(source), drawn_given(source), source.choice([0, 1, 2, 5, 10, 30, 60, 150]))
            ends[answer[1]] = ends.get(answer[1], 0) + 1
        self.assertEqual(len(ends), 3)
        self.assertGreater(min(ends.values()), 9)

    def test_parts_that_do_one_another_as_deep_as_can_be(self):
        rows = ["num n"]
        names = "abcdefghijkl"
        for place, name in enumerate(names):
            inner = ["do " + names[place - 1]] if place else ["n = (n+1)", "tell n"]
            rows += ["part " + name] + ["if yes"] * 8 + inner + ["end"] * 9
        tree = tree_from("\n".join(rows + ["main"] + ["while (n<2)"] * 8 + ["do l"] + ["end"] * 9))
        self.assertEqual(self.ask(tree, [], 2000)[:3], ([1, 2], "ended", {"n": 2}))

    def test_what_lies_beyond_is_not_refused(self):
        tree = ([("list", "x", 120)], [],
                [("put", "x", ("num", 119), ("num", 70000)), ("tell", ("at", "x", ("num", 119)))])
        self.assertEqual(meant(tree, [], 9)[:2], ([4464], "ended"))


if __name__ == "__main__":
    unittest.main()
