import itertools
import random
import re
import unittest

from gatetown.codes import word_of
from gatetown.errors import BadRow, TooLong
from gatetown.rows import assembled

OPS = "set load store add take both goto zero below from into move link call own back".split()
NAME = "[a-z][a-z0-9]{0,11}"
NUMBER = "(?:0|[1-9][0-9]*)"


def number_by(text, most):
    if text is None:
        return 0
    return int(text) if len(text) < 9 and int(text) <= most else None


def form_by(row):
    """A row's kind, name, number and op by patterns, or None."""
    found = re.fullmatch("(give|need) ({})".format(NAME), row)
    if found:
        return found[1], found[2], 0, 0
    found = re.fullmatch("({}):".format(NAME), row)
    if found:
        return "label", found[1], 0, 0
    found = re.fullmatch("space ({})".format(NUMBER), row)
    if found:
        number = number_by(found[1], 4095)
        return None if number is None else ("space", None, number, 0)
    found = re.fullmatch(r"([a-z]+) ({0})|([a-z]+) ({1})(?:\+({0}))?".format(NUMBER, NAME), row)
    if not found or (found[1] or found[3]) not in OPS + ["word"]:
        return None
    op = found[1] or found[3]
    number = number_by(found[2], 65535 if op == "word" else 4095) if found[2] else number_by(found[5], 4095)
    if number is None:
        return None
    return "word", found[4], number, 0 if op == "word" else OPS.index(op)


def assembled_by_words(text):
    """Point [13], word by word: ("row", number), "long", or the object."""
    rows = text.split("\n") if text else []
    forms = [form_by(row) for row in rows]
    head = list(itertools.takewhile(lambda form: form and form[0] in ["give", "need"], forms))
    labels = [form[1] for form in forms if form and form[0] == "label"]
    needs = [form[1] for form in head if form[0] == "need"]
    for k, form in enumerate(forms):
        if form is None:
            return "row", k
        kind, name = form[:2]
        twice = kind in ["give", "need", "label"] and any(one and one[:2] == form[:2] for one in forms[:k])
        late = kind in ["give", "need"] and k >= len(head)
        wrong = (kind == "give" and name not in labels) or (kind == "label" and name in needs)
        unknown = kind == "word" and name and name not in labels + needs
        if twice or late or wrong or unknown:
            return "row", k
    sizes = [{"space": form[2], "word": 1}.get(form[0], 0) for form in forms]
    if sum(sizes) > 4095:
        return "long"
    places = [sum(sizes[:k]) for k in range(len(forms))]
    place_of = {form[1]: place for form, place in zip(forms, places) if form[0] == "label"}
    words = []
    for form in forms:
        if form[0] == "space":
            words += [0] * form[2]
        elif form[0] == "word" and form[1] in place_of:
            words.append(form[3] * 4096 + (form[2] + place_of[form[1]]) % 4096)
        elif form[0] == "word":
            words.append(form[3] * 4096 + form[2])
    used = [(place, form[1]) for form, place in zip(forms, places) if form[0] == "word" and form[1]]
    return (words, [place for place, name in used if name in place_of],
            [(place, name) for place, name in used if name not in place_of],
            {form[1]: place_of[form[1]] for form in head if form[0] == "give"}, places)


class RowsTest(unittest.TestCase):
    def refused(self, text, row):
        with self.assertRaises(BadRow) as caught:
            assembled(text)
        self.assertEqual(caught.exception.row, row, text)
        self.assertIs(type(caught.exception), BadRow)
        self.assertIs(type(caught.exception.row), int)

    def too_long(self, text):
        with self.assertRaises(TooLong) as caught:
            assembled(text)
        self.assertIs(type(caught.exception), TooLong)

    # what stands

    def test_the_empty_text(self):
        told = assembled("")
        self.assertEqual(told, ([], [], [], {}, []))
        self.assertEqual([type(part) for part in told], [list, list, list, dict, list])
        self.assertIs(type(told), tuple)

    def test_each_op(self):
        for op in OPS:
            for number in [0, 7, 10, 4095]:
                self.assertEqual(assembled("{} {}".format(op, number)), ([word_of(op, number)], [], [], {}, [0]))
            self.assertEqual(assembled("need a\n{} a".format(op)), ([word_of(op, 0)], [], [(0, "a")], {}, [0, 0]))
            self.assertEqual(assembled("need a\n{} a+4095".format(op))[0], [word_of(op, 4095)])
            self.assertEqual(assembled("set 0\na:\n{} a".format(op)),
                             ([0, word_of(op, 1)], [1], [], {}, [0, 1, 1]))

    def test_each_kind_of_row(self):
        text = "give go\nneed out\ngo:\nset 5\nlink out+2\nspace 3\nat:\nword 65535\nword at\nword go+7\nword out"
        self.assertEqual(assembled(text), ([5, 12 * 4096 + 2, 0, 0, 0, 65535, 5, 7, 0], [6, 7],
                                           [(1, "out"), (8, "out")], {"go": 0}, [0, 0, 0, 0, 1, 2, 5, 5, 6, 7, 8]))

    def test_labels(self):
        self.assertEqual(assembled("a:"), ([], [], [], {}, [0]))
        self.assertEqual(assembled("set 1\nset 2\na:\nb:\nc:\nset a\nset b\ngoto c\nset d\nd:\ne:\nset e"),
                         ([1, 2, 2, 2, 6 * 4096 + 2, 6, 6], [2, 3, 4, 5, 6], [], {},
                          [0, 1, 2, 2, 2, 2, 3, 4, 5, 6, 6, 6]))

    def test_labels_behind_all_words(self):
        self.assertEqual(assembled("give end\ngoto end\nend:"), ([6 * 4096 + 1], [0], [], {"end": 1}, [0, 0, 1]))
        self.assertEqual(assembled("space 4094\nset end\nend:\nlast:")[0][-1], 4095)

    def test_places_go_round_at_4096(self):
        self.assertEqual(assembled("set 0\nload a+4095\na:")[0], [0, 4096 + 1])
        self.assertEqual(assembled("a:\nload a+4095")[0], [4096 + 4095])
        self.assertEqual(assembled("space 10\na:\nback a+4086")[0][-1], 15 * 4096)
        self.assertEqual(assembled("space 10\na:\nword a+4085")[0][-1], 4095)
        self.assertEqual(assembled("space 10\na:\nword a+4086")[0][-1], 0)
        self.assertEqual(assembled("need a\nword a+4095")[0], [4095])

    def test_word(self):
        for number in [0, 9, 4095, 4096, 10000, 65535]:
            self.assertEqual(assembled("word {}".format(number)), ([number], [], [], {}, [0]))
        self.assertEqual(assembled("set 3\na:\nword a"), ([3, 1], [1], [], {}, [0, 1, 1]))
        self.assertEqual(assembled("set 3\na:\nword a+9"), ([3, 10], [1], [], {}, [0, 1, 1]))
        self.assertEqual(assembled("need b\nword b+9\nword b+0"), ([9, 0], [], [(0, "b"), (1, "b")], {}, [0, 0, 1]))

    def test_space(self):
        self.assertEqual(assembled("space 0"), ([], [], [], {}, [0]))
        self.assertEqual(assembled("space 4095"), ([0] * 4095, [], [], {}, [0]))
        self.assertEqual(assembled("set 1\nspace 0\nspace 2\nspace 0\na:\nset a"),
                         ([1, 0, 0, 3], [3], [], {}, [0, 1, 1, 3, 3, 3]))

    def test_given_in_the_order_of_the_gives(self):
        told = assembled("give c\nneed z\ngive a\ngive b\na:\nset 1\nb:\nset 2\nc:")
        self.assertEqual(list(told[3].items()), [("c", 2), ("a", 0), ("b", 1)])
        self.assertEqual(told[4], [0, 0, 0, 0, 0, 0, 1, 1, 2])

    def test_needed_by_several_rows(self):
        told = assembled("need b\nneed a\nset a\nset b+1\nset a+2\nneeds:\nset 0\nset b")
        self.assertEqual(told[2], [(0, "a"), (1, "b"), (2, "a"), (4, "b")])
        self.assertEqual(told[0], [0, 1, 2, 0, 0])
        self.assertEqual(told[1], [])

    def test_names(self):
        for name in ["a", "z", "a0", "z9", "abcdefghijkl", "a12345678901", "set", "word", "space", "give", "need"]:
            text = "give {0}\n{0}:\ngoto {0}".format(name)
            self.assertEqual(assembled(text), ([6 * 4096], [0], [], {name: 0}, [0, 0, 0]), name)
            self.assertEqual(assembled("need {0}\nset {0}+1".format(name)), ([1], [], [(0, name)], {}, [0, 0]))

    def test_a_name_may_be_used_ahead_of_its_label(self):
        self.assertEqual(assembled("goto b\nset 0\nb:\nset 9")[0], [6 * 4096 + 2, 0, 9])

    # rows of no form

    def test_rows_of_no_form(self):
        for row in ["", " ", "set", "set ", " set 1", "set 1 ", "set  1", "set 1 2", "set 1  2", "set\t1", "set -1",
                    "set +1", "set 4096", "set 10000", "set 99999999999", "set 00", "set 01", "set 0x1", "set 1a",
                    "set A", "set aB", "set a_b", "set 1+1", "set a+", "set +a", "set a+b", "set a+01", "set a+4096",
                    "set a++1", "set a+1+1", "set a +1", "set a+ 1", "set a-1", "set abcdefghijklm",
                    "set abcdefghijklm+1", "set a:", "seta 1", "Set 1", "SET 1", "sett 1", "nop 0", "halt", "13 0",
                    "word", "word ", "word 65536", "word 065", "word 100000", "word -1", "word 1 2", "word a b",
                    "word A", "word a+4096", "word 1+1", "words 1", "space", "space ", "space 4096", "space 01",
                    "space a", "space -1", "space 1 1", "space 1+1", "give", "give ", "give 1", "give A", "give a b",
                    "give a+1", "give a:", "give abcdefghijklm", "need", "need 1a", "need A", "need a b", "need a+0",
                    "need abcdefghijklm", ":", "a :", " a:", "a: ", "a::", "A:", "1:", "1a:", "a-b:", "a+1:", "ab",
                    "abcdefghijklm:", "a: set 1", "a:b:", "a b:", "+", "label a", ".", "set 1;", "# a", "set 1 # a",
                    "set \"1\"", "set " + "1" * 5000, "word " + "9" * 6000]:
            if row != "":
                self.refused(row, 0)
            self.refused("need a\n" + row, 1)
            self.refused("give b\nb:\nset 1\n" + row + "\nset 2", 3)
            self.refused("need a\nset a\n" + row + "\nset nowhere", 2)

    def test_empty_rows(self):
        self.refused("\n", 0)
        self.refused("set 1\n", 1)
        self.refused("\nset 1", 0)
        self.refused("set 1\n\nset 2", 1)
        self.refused("set 1\nset 2\n\n", 2)

    # rows that can not stand where they stand

    def test_gives_and_needs_stand_ahead(self):
        for row in ["set 1", "word 1", "space 0", "space 3", "a:"]:
            self.refused(row + "\nneed b", 1)
            self.refused("b:\n" + row.replace("a:", "c:") + "\ngive b", 2)
        self.refused("need a\nset 1\nneed b\nset b", 2)
        self.refused("a:\nneed a", 1)
        self.refused("give a\na:\nset 1\ngive a", 3)

    def test_gives_and_needs_may_be_mixed(self):
        self.assertEqual(assembled("need x\ngive a\nneed y\ngive b\na:\nb:")[3], {"a": 0, "b": 0})

    def test_what_stands_twice(self):
        self.refused("a:\na:", 1)
        self.refused("a:\nset 1\nb:\na:\nb:", 3)
        self.refused("give a\ngive b\ngive a\na:\nb:", 2)
        self.refused("need a\nneed b\nneed a", 2)
        self.refused("give a\ngive a\na:\na:", 1)
        self.assertEqual(assembled("set 1\nset 1\nspace 2\nspace 2")[0], [1, 1, 0, 0, 0, 0])

    def test_a_give_that_is_no_label(self):
        self.refused("give a", 0)
        self.refused("give a\ngive b\na:", 1)
        self.refused("need a\ngive a", 1)
        self.refused("give a\nneed a", 0)
        self.refused("give b\nset 1\na:", 0)

    def test_a_need_that_is_a_label(self):
        self.refused("need a\na:", 1)
        self.refused("need a\nset a\nb:\na:\nset 1", 3)
        self.refused("need b\nneed a\nset a\nb:\na:", 3)

    def test_a_name_that_is_neither(self):
        self.refused("set a", 0)
        self.refused("set 1\nword a+1\na1:", 1)
        self.refused("need b\nset b\ngoto a", 2)
        self.refused("set b\nset a\nb:\nset c", 1)

    def test_a_need_that_can_not_stand_needs_nothing(self):
        self.refused("goto b\nneed b", 0)
        self.refused("set 1\ngoto b\nneed b", 1)
        self.refused("set 1\nneed b\ngoto b", 1)
        self.refused("a:\ngoto c\nneed c\na:", 1)

    def test_a_needed_name_that_is_given_and_a_label(self):
        self.refused("give a\nneed a\na:", 2)
        self.refused("need a\ngive a\nset a\na:", 3)

    def test_the_first_of_several_faults(self):
        self.refused("set 4096\nset 4097", 0)
        self.refused("set 1\na:\nset nowhere\na:\nset 5000", 2)
        self.refused("set 1\na:\na:\nset nowhere", 2)
        self.refused("give z\nset 5000", 0)
        self.refused("need a\ngive a\n\na:", 2)
        self.refused("need a\nset 5000\na:", 1)
        self.refused("need a\na:\nset 5000", 1)
        self.refused("give a\nset nowhere\nneed b\na:", 1)

    # too long

    def test_4095_words_and_one_more(self):
        self.assertEqual(len(assembled("\n".join(["set 1"] * 4095))[0]), 4095)
        self.too_long("\n".join(["set 1"] * 4096))
        self.assertEqual(len(assembled("space 4095\nspace 0\na:")[0]), 4095)
        self.too_long("space 4095\nset 1")
        self.too_long("space 4095\nspace 1")
        self.too_long("set 1\nspace 4095")
        self.too_long("space 4095\nspace 4095\na:\nset a")
        self.assertEqual(len(assembled("space 4094\nset 1")[0]), 4095)

    def test_a_bad_row_ahead_of_too_long(self):
        self.refused("space 4095\nspace 4095\nset nowhere", 2)
        self.refused("give a\nspace 4095\nset 1", 0)
        self.refused("need a\nspace 4095\nset 1\na:", 3)
        self.refused("space 4095\nset 1\n", 2)

    # all of it

    def drawn_row(self, source):
        name = source.choice(["a", "b", "c", "d1"])
        number = source.choice(["0", "1", "7", "4095"])
        arg = source.choice([number, name, name, name + "+" + number])
        op = source.choice(OPS)
        return source.choice([name + ":", name + ":", "{} {}".format(op, arg), "{} {}".format(op, arg),
                              "word " + source.choice([arg, "65535"]), "space " + source.choice(["0", "1", "5"])])

    def drawn_text(self, source):
        names = ["a", "b", "c", "d1"]
        source.shuffle(names)
        head = [source.choice(["give ", "need "]) + name for name in names[:source.randrange(5)]]
        if source.randrange(6) == 0:
            head.append("need a")
        rows = [self.drawn_row(source) for _ in range(source.randrange(9))]
        if source.randrange(2):
            needs = [row[5:] for row in head if row.startswith("need")]
            seen = set(needs)
            kept = []
            for row in rows + [name + ":" for name in names]:
                if row.endswith(":") and row in seen or row[:-1] in needs and row.endswith(":"):
                    continue
                seen.add(row)
                kept.append(row)
            rows = kept
        if source.randrange(8) == 0:
            rows.insert(source.randrange(len(rows) + 1), source.choice(["need c", "give a", "set", "set 5000", ""]))
        if source.randrange(12) == 0:
            rows.insert(source.randrange(len(rows) + 1), source.choice(["space 4090", "space 4085", "space 4095"]))
        return "\n".join(head + rows)

    def test_against_the_words_of_the_document(self):
        source = random.Random(31)
        kinds = {}
        for _ in range(6000):
            text = self.drawn_text(source)
            wanted = assembled_by_words(text)
            if wanted == "long":
                self.too_long(text)
            elif wanted[0] == "row":
                self.refused(text, wanted[1])
            else:
                told = assembled(text)
                self.assertEqual(told, wanted, text)
                self.assertEqual(list(told[3]), list(wanted[3]))
            kind = wanted if wanted == "long" else "row" if wanted[0] == "row" else "fine"
            kinds[kind] = kinds.get(kind, 0) + 1
        self.assertGreater(min(kinds.get(kind, 0) for kind in ["long", "row", "fine"]), 40, kinds)

    def test_what_is_told_is_the_askers_own(self):
        text = "give a\nneed b\na:\nset a\nset b"
        one = assembled(text)
        another = assembled(text)
        self.assertEqual(one, another)
        for k in range(5):
            self.assertIsNot(one[k], another[k])
            one[k].clear()
        self.assertEqual(assembled(text), another)
        empty = assembled("")
        lists = [empty[0], empty[1], empty[2], empty[4]]
        self.assertEqual(len({id(part) for part in lists}), 4)


if __name__ == "__main__":
    unittest.main()
