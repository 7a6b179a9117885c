import copy
import random
import unittest

from gatetown.codes import word_of
from gatetown.errors import TooLong
from gatetown.kinds import looked, statements
from gatetown.making import image_of, made
from gatetown.meaning import meant
from gatetown.reading import tree_of
from gatetown.rows import assembled
from gatetown.running import lone
from drawn import EDGES, drawn_given, drawn_tree, flags_in, lists_in, most_beats, most_words, signed, tree_with

BEATS = 4000


def tree_from(text):
    tree = tree_of(text)
    looked(tree)
    return tree


def cells_at(memory, tree, places):
    """The variables' values by the words of a memory."""
    values = {}
    for kind, name, size in tree[0]:
        words = [memory.get(places[name] + k, 0) for k in range(size)]
        values[name] = words if kind == "list" else words[0]
    return values


def words_told(text):
    """How many words a module's text has, however many these are."""
    count = 0
    for row in text.split("\n"):
        words = row.split(" ")
        count += int(words[1]) if words[0] == "space" else 0 if row.endswith(":") else 1
    return count


class MakingCase(unittest.TestCase):
    def paper(self, tree):
        before = copy.deepcopy(tree)
        text, paper = made(tree)
        self.assertEqual(made(tree), (text, paper))
        image, places = image_of(tree)
        self.assertEqual(tree, before)
        module = assembled(text)
        self.assertEqual((image, module[2]), (module[0], []))
        self.assertEqual([type(one) for one in (text, paper, image, places)], [str, tuple, list, tuple])
        self.assertEqual(flags_in([paper, image, places]), [])
        self.assertEqual(places, tuple({key: module[4][row] for key, row in part.items()} for part in paper))
        begins, cells = places
        self.assertEqual(sorted(begins), list(range(len(statements(tree)))))
        self.assertEqual(len(set(begins.values())), len(begins))
        self.assertEqual(sorted(cells), sorted(variable[1] for variable in tree[0]))
        owned = [cells[name] + k for _, name, size in tree[0] for k in range(size)]
        self.assertEqual(len(set(owned)), len(owned))
        self.assertTrue(all(0 <= place < len(image) and image[place] == 0 for place in owned))
        self.assertFalse(set(owned) & set(begins.values()))
        if tree[2]:
            self.assertEqual(begins[self.main_number(tree)], 0)
        self.assertLessEqual(len(image), most_words(tree))
        return image, begins, cells

    def main_number(self, tree):
        return len(statements((tree[0], tree[1], [])))

    def beats_of(self, tree, begins, traces):
        """No statement takes more beats than told, counted from its begin up to the next one."""
        every = statements(tree)
        numbers = {place: number for number, place in begins.items()}
        number = None
        for state, _ in [entry for trace in traces for entry in trace]:
            if state[4] == 0 and state[2] in numbers:
                number = numbers[state[2]]
                beats = 0
            if number is not None:
                beats += 1
                self.assertLessEqual(beats, most_beats(every[number]))

    def ask(self, tree, given, beats=BEATS):
        image, begins, cells = self.paper(tree)
        told, end, memory, traces = lone(image, given, beats)
        self.beats_of(tree, begins, traces)
        if end == "going":
            # No statement takes less than a row, which takes two beats.
            meaning = meant(tree, given, beats)
            self.assertEqual(meaning[0][:len(told)], told)
        else:
            meaning = meant(tree, given, beats)
            self.assertEqual((told, end, cells_at(memory, tree, cells)), meaning[:3])
        return told, end

    def told(self, given, *rows):
        told, end = self.ask(tree_with(*rows), given)
        self.assertEqual(end, "ended")
        return told


class ExpressionTest(MakingCase):
    def test_sums_differences_and_common_figures(self):
        for one in EDGES:
            for another in EDGES:
                told = self.told([one, another], "ask a", "ask b", "tell (a+b)", "tell (a-b)", "tell (a&b)")
                self.assertEqual(told, [(one + another) % 65536, (one - another) % 65536, one & another])

    def test_less_and_alike(self):
        rows = ["ask a", "ask b", "if (a<b)", "tell 1", "else", "tell 2", "end", "if (a=b)", "tell 3", "end",
                "f = (a<b)", "g = not((a=b))", "if ((a+0)<(b+0))", "tell 4", "end", "if ((a-0)=(b&b))", "tell 5", "end"]
        for one in EDGES:
            for another in EDGES:
                less, alike = signed(one) < signed(another), one == another
                wanted = [1 if less else 2] + [3] * alike + [4] * less + [5] * alike
                self.assertEqual(self.told([one, another], *rows), wanted)

    def test_less_of_numbers_and_places(self):
        for one in [0, 6, 7, 8, 32767, 32768, 65535]:
            rows = ["ask a", "xs[2] = a", "if (xs[2]<7)", "tell 1", "end", "if (7<xs[2])", "tell 2", "end",
                    "if (xs[2]=7)", "tell 3", "end", "if (xs[2]<xs[1])", "tell 4", "end", "if (xs[1]<(xs[2]-1))",
                    "tell 5", "end"]
            wanted = [1] * (signed(one) < 7) + [2] * (signed(one) > 7) + [3] * (one == 7) + [4] * (signed(one) < 0)
            wanted += [5] * (signed((one - 1) % 65536) > 0)
            self.assertEqual(self.told([one], *rows), wanted)

    def test_flags(self):
        for expr, flag in [("yes", 1), ("no", 0), ("not(yes)", 0), ("not(no)", 1), ("not(not(no))", 0), ("f", 0),
                           ("not(f)", 1), ("g", 1), ("not(g)", 0), ("not((a<b))", 1), ("not((a=b))", 0)]:
            rows = ["g = yes", "f = " + expr, "if f", "tell 1", "else", "tell 0", "end",
                    "if " + expr.replace("f", "no"), "tell 1", "else", "tell 0", "end"]
            self.assertEqual(self.told([], *rows), [flag, flag], expr)

    def test_joins_of_joins(self):
        operands = ["3", "a", "xs[1]", "(a+b)", "(b-xs[a])"]
        for one in operands:
            for another in operands:
                for join in "+-&":
                    rows = ["a = 2", "b = 13", "xs[1] = 6", "xs[2] = 11", "tell (%s%s%s)" % (one, join, another),
                            "tell ((%s%s%s)-(%s%s%s))" % (one, join, another, another, join, one)]
                    self.told([], *rows)

    def test_eight_brackets(self):
        for left, right, times in [("(1+", ")", 8), ("xs[", "]", 8), ("(xs[2]-", ")", 7), ("xs[(1-", ")]", 4)]:
            rows = ["xs[0] = 1", "xs[1] = 1", "tell " + left * times + "0" + right * times]
            self.assertEqual(self.ask(tree_with(*rows), [])[1], "ended")
        self.told([], "tell ((((((((1+2)+3)+4)+5)+6)+7)+8)+9)")
        self.told([], "tell (9-(8-(7-(6-(5-(4-(3-(2-1))))))))")
        deep = "a"
        for _ in range(7):
            deep = "(" + deep + "+" + deep + ")"
        self.assertEqual(self.told([3], "ask a", "tell " + deep), [384])
        self.assertEqual(self.told([3], "ask a", "xs[0] = " + deep, "tell xs[(xs[0]-384)]"), [384])
        flag = "f"
        for _ in range(8):
            flag = "not(" + flag + ")"
        self.assertEqual(self.told([], "f = yes", "if " + flag, "tell 1", "end"), [1])


class ListTest(MakingCase):
    def test_places(self):
        for name, size in [("xs", 4), ("ys", 99)]:
            for place in [0, 1, size - 1, size, size + 1, 4095, 4096, 32767, 32768, 32768 + size, 65535 - size, 65535]:
                for row in ["tell {}[a]", "b = {}[a]", "{}[a] = 5", "{}[a] = (a+1)", "{}[0] = {}[a]", "tell (1+{}[a])",
                            "if ({}[a]<1)\ntell 3\nend", "while not(({}[a]=0))\nend", "tell ({}[a]+{}[a])",
                            "tell {}[{}[a]]", "{}[a] = {}[a]", "{}[{}[a]] = {}[{}[a]]"]:
                    rows = ["ask a", "tell 8", row.replace("{}", name), "tell 9"]
                    told, end = self.ask(tree_with(*rows), [place])
                    self.assertEqual(end, "ended" if place < size else "fault")
                    self.assertEqual(told[-1], 9 if place < size else 8)

    def test_every_place_is_by_itself(self):
        text = "list xs 5\nnum a\nlist ys 7\nnum b\nmain\nwhile (a<5)\nxs[a] = (a+10)\na = (a+1)\nend\nwhile (b<7)\n" \
               "ys[b] = (b+20)\nb = (b+1)\nend\na = 0\nwhile (a<5)\ntell xs[a]\na = (a+1)\nend\ntell ys[6]\n" \
               "tell ys[0]\nend"
        self.assertEqual(self.ask(tree_from(text), [])[0], [10, 11, 12, 13, 14, 26, 20])


class StatementTest(MakingCase):
    def test_each_kind(self):
        self.assertEqual(self.told([], "tell 0", "tell 4095", "tell (0-1)"), [0, 4095, 65535])
        self.assertEqual(self.told([5], "ask a", "tell a", "ask b", "tell b", "give way", "tell a"), [5, 65535, 5])
        self.assertEqual(self.told([], "tell 1", "stop", "tell 2"), [1])
        self.assertEqual(self.told([], "if yes", "else", "tell 1", "end", "if no", "tell 2", "else", "end"), [])
        self.assertEqual(self.told([], "while no", "tell 1", "end", "tell 2"), [2])
        self.assertEqual(self.told([4], "ask a", "while (b<a)", "if ((b&1)=1)", "tell b", "else", "if (b=2)", "tell 9",
                                   "end", "end", "b = (b+1)", "end", "tell 7"), [1, 9, 3, 7])

    def test_a_while_without_an_end(self):
        self.assertEqual(self.ask(tree_with("while yes", "end", "tell 1"), []), ([], "going"))
        told, end = self.ask(tree_with("while yes", "tell a", "a = (a+1)", "end"), [], 500)
        self.assertEqual((told[:3], end), ([0, 1, 2], "going"))

    def test_parts(self):
        text = "num n\npart n\nn = (n+1)\ntell n\nend\npart two\ndo n\ndo n\nend\npart none\nend\npart four\ndo two\n" \
               "do none\ndo two\nend\nmain\ndo four\ntell 100\ndo n\nend"
        self.assertEqual(self.ask(tree_from(text), [])[0], [1, 2, 3, 4, 100, 5])
        text = "part s\ntell 1\nif yes\nstop\nend\ntell 2\nend\npart t\nwhile yes\ndo s\nend\ntell 3\nend\nmain\n" \
               "do t\nend"
        self.assertEqual(self.ask(tree_from(text), []), ([1], "ended"))

    def test_main_without_statements(self):
        for text in ["main\nend", "num a\nmain\nend", "part p\ntell 1\nend\nmain\nend",
                     "list x 99\npart p\nend\nmain\nend"]:
            tree = tree_from(text)
            self.assertEqual(self.ask(tree, []), ([], "ended"))
            image = image_of(tree)[0]
            self.assertEqual(image[0], word_of("call", 0))
            self.assertEqual(len(lone(image, [], 99)[3][0]), 2)

    def test_main_stands_first(self):
        for row in ["tell 1", "a = 1", "xs[0] = 1", "ask a", "if yes\nend", "while no\nend", "stop", "give way",
                    "while (a<1)\na = 1\nend", "if not((a<b))\nend"]:
            self.assertEqual(self.ask(tree_with(row), [])[1], "ended")
        tree = tree_from("part p\ntell 1\nend\nmain\ndo p\nend")
        self.assertEqual(image_of(tree)[1][0], {0: image_of(tree)[1][0][0], 1: 0})

    def test_names_like_words_of_rows_and_labels(self):
        names = ["load", "store", "add", "take", "both", "goto", "zero", "below", "from", "into", "move", "link",
                 "call", "own", "back", "set", "word", "space", "need", "table", "now", "v", "j", "p", "r", "n", "t",
                 "a", "x", "fault", "less", "l", "temp", "one", "var", "label"]
        rows = ["num " + name for name in names]
        for name in names[:12]:
            rows += ["part " + name, name + " = (" + name + "+1)", "tell " + name, "end"]
        rows += ["main"]
        for place, name in enumerate(names):
            rows += [name + " = " + str(place)]
        rows += ["do " + name for name in names[:12]] + ["tell " + name for name in names] + ["end"]
        told = self.ask(tree_from("\n".join(rows)), [])[0]
        self.assertEqual(told[:12], list(range(1, 13)))
        self.assertEqual(told[12:], list(range(1, 13)) + list(range(12, len(names))))

    def test_names_with_figures_in_a_tree_of_ones_own(self):
        names = ["v0", "v1", "p0", "j0", "j1", "n1", "n4", "t0", "r0"]
        tree = ([("num", name, 1) for name in names],
                [(name, [("set", name, ("+", ("name", name), ("num", 1)))]) for name in names],
                [("do", name) for name in names] + [("tell", ("name", name)) for name in names])
        self.assertEqual(self.ask(tree, [])[0], [1] * len(names))


class BoundsTest(MakingCase):
    def test_40_variables(self):
        letters = "abcdefghijklmnopqrstuvwxyz"
        names = list(letters) + ["a" + letter for letter in letters[:14]]
        rows = ["num " + name if place % 2 else "list " + name + " 9" for place, name in enumerate(names)]
        rows += ["main"]
        for place, name in enumerate(names):
            rows += [name + " = " + str(place) if place % 2 else name + "[8] = " + str(place)]
        rows += ["tell " + name if place % 2 else "tell " + name + "[8]" for place, name in enumerate(names)]
        self.assertEqual(self.ask(tree_from("\n".join(rows + ["end"])), [])[0], list(range(40)))

    def deep_parts(self, names, head, otherwise):
        rows = ["num n"]
        for place, name in enumerate(names):
            inner = ["do " + names[place - 1]] if place else ["n = (n+1)", "tell n"]
            rows += ["part " + name] + [head] * 8 + inner + (otherwise + ["end"]) * 8 + ["end"]
        return tree_from("\n".join(rows + ["main"] + ["while (n<2)"] * 8 + ["do " + names[-1]] + ["end"] * 9))

    def test_12_parts_with_eight_ifs_within_one_another(self):
        self.assertEqual(self.ask(self.deep_parts("abcdefghijkl", "if yes", []), []), ([1, 2], "ended"))
        self.assertEqual(self.ask(self.deep_parts("abcdefghijkl", "if yes", ["else"]), []), ([1, 2], "ended"))
        self.assertEqual(self.ask(self.deep_parts("abcdefghij", "if yes", ["else", "give way"]), []), ([1, 2], "ended"))

    def test_eight_of_each_within_one_another(self):
        for heads in [["if yes"] * 8, ["while (a<3)"] * 8, ["if yes", "while (a<3)"] * 4,
                      ["while (a<3)", "if yes"] * 4]:
            rows = heads + ["a = (a+1)", "tell a"] + ["end"] * 8 + ["tell 9"]
            self.assertEqual(self.told([], *rows)[-1], 9)
        rows = ["if (a=0)"] * 8 + ["tell 1"] + ["else", "tell 2", "end"] * 8 + ["tell 3"]
        self.assertEqual(self.told([], *rows), [1, 3])
        rows = ["if (a=1)", "tell 1", "else"] * 8 + ["tell 2"] + ["end"] * 8 + ["tell 3"]
        self.assertEqual(self.told([], *rows), [2, 3])

    def test_200_statements(self):
        self.assertEqual(self.told([], *["tell " + str(k) for k in range(200)]), list(range(200)))
        rows = ["a = (a+1)"] * 100 + ["if (a<0)", "tell 1", "end"] * 49 + ["f = (0<a)", "tell a"]
        self.assertEqual(self.told([], *rows), [100])
        tree = tree_with(*["while ((a+a)<(b-c))", "end"] * 200)
        self.assertEqual(self.ask(tree, [], 10000), ([], "ended"))

    def test_lists_of_99(self):
        rows = ["list " + name + " 99" for name in "abcdefghij"] + ["num n", "main", "while (n<99)"]
        rows += [name + "[n] = (n+" + str(place) + ")" for place, name in enumerate("abcdefghij")]
        rows += ["n = (n+1)", "end"] + ["tell " + name + "[98]" for name in "abcdefghij"] + ["end"]
        tree = tree_from("\n".join(rows))
        image, begins, cells = self.paper(tree)
        told, end, memory, _ = lone(image, [], 40000)
        self.assertEqual((told, end), ([98 + place for place in range(10)], "ended"))
        self.assertEqual(cells_at(memory, tree, cells), meant(tree, [], 40000)[2])

    def test_what_lies_beyond_is_not_refused(self):
        deep = ("-", ("name", "n"), ("name", "n"))
        for _ in range(12):
            deep = ("+", ("num", 1), ("+", deep, ("num", 0)))
        tree = ([("list", "x", 120), ("num", "n", 1)], [],
                [("put", "x", ("num", 119), ("num", 4096)), ("tell", ("at", "x", ("num", 119))),
                 ("tell", ("+", ("num", 65535), ("num", 40000))), ("tell", deep)])
        image = image_of(tree)[0]
        self.assertEqual(lone(image, [], 999)[:2], ([4096, 39999, 12], "ended"))
        self.assertEqual(lone(image, [], 999)[:2], meant(tree, [], 99)[:2])


class TooLongTest(MakingCase):
    def lists(self, sizes, rows):
        names = ["x" + chr(97 + place // 26) + chr(97 + place % 26) for place in range(len(sizes))]
        head = ["list " + name + " " + str(size) for name, size in zip(names, sizes)]
        return tree_from("\n".join(head + ["main"] + rows + ["end"]))

    def test_just_where_the_text_has_too_many_words(self):
        seen = {}
        for rows in [["tell 1"] * 60, ["tell 1"] * 67, ["tell 1"] * 68, ["tell 1", "give way"] * 45,
                     ["tell xaa[1]"] * 30]:
            for last in range(90, 100):
                tree = self.lists([99] * 39 + [last], rows)
                before = copy.deepcopy(tree)
                text, paper = made(tree)
                self.assertEqual(tree, before)
                self.assertEqual(sorted(paper[0]), list(range(len(rows))))
                words = words_told(text)
                if words > 4095:
                    with self.assertRaises(TooLong):
                        image_of(tree)
                    with self.assertRaises(TooLong):
                        assembled(text)
                else:
                    self.assertEqual(len(image_of(tree)[0]), words)
                self.assertEqual(tree, before)
                seen[min(max(words, 4094), 4097)] = True
        self.assertEqual(sorted(seen), [4094, 4095, 4096, 4097])

    def test_surely_too_long(self):
        tree = self.lists([99] * 40, ["give way"] * 200)
        with self.assertRaises(TooLong) as caught:
            image_of(tree)
        self.assertIs(type(caught.exception), TooLong)
        text, (begins, cells) = made(tree)
        self.assertEqual((len(begins), len(cells)), (200, 40))


class PaperTest(MakingCase):
    def test_begins_and_cells_are_rows_of_the_text(self):
        source = random.Random(84)
        for _ in range(60):
            tree = drawn_tree(source)
            text, (begins, cells) = made(tree)
            rows = text.split("\n")
            places = assembled(text)[4] + [len(assembled(text)[0])]
            for row in list(begins.values()) + list(cells.values()):
                self.assertFalse(rows[row].endswith(":"))
            for _, name, size in tree[0]:
                self.assertGreaterEqual(places[cells[name] + 1] - places[cells[name]], 1)
            self.paper(tree)

    def test_what_is_told_is_new_each_time(self):
        tree = tree_with("tell 1", "xs[0] = 2")
        for ask in [made, image_of]:
            one, another = ask(tree), ask(tree)
            self.assertEqual(one, another)
            found = lists_in(one) + lists_in(another)
            self.assertEqual(len({id(part) for part in found}), len(found))
            for part in lists_in(one):
                part.clear()
            self.assertEqual(ask(tree), another)


class DrawnTest(MakingCase):
    def test_the_image_tells_what_the_program_means(self):
        source = random.Random(85)
        ends = {}
        for _ in range(500):
            told, end = self.ask(drawn_tree(source), drawn_given(source), source.choice([50, 400, 3000]))
            ends[end] = ends.get(end, 0) + 1
        self.assertEqual(len(ends), 3)
        self.assertGreater(min(ends.values()), 9)


if __name__ == "__main__":
    unittest.main()
