import random
import unittest

from gatetown.kinds import looked
from gatetown.making import image_of
from gatetown.meaning import meant
from gatetown.reading import tree_of
from gatetown.shell import shell
from gatetown.town import town_run
from drawn import drawn_given, drawn_text

COUNT = "num n\nmain\nask n\nwhile (0<n)\ntell n\nn = (n-1)\nend\nend"
TELL = "main\ntell 7\ntell 4095\nend"
FAULTY = "list x 2\nmain\ntell 1\ntell x[2]\nend"
ENDLESS = "main\nwhile yes\nend\nend"


def keep(name, text):
    return "keep " + name + "\n" + text + "\n."


def shown(text, blocks=256, quota=100, beats=20000):
    return shell(text, blocks, quota, beats)


class ShellCase(unittest.TestCase):
    def ask(self, rows, wanted, blocks=256, quota=100, beats=20000):
        told = shell("\n".join(rows), blocks, quota, beats)
        self.assertIs(type(told), str)
        self.assertEqual(told, "\n".join(wanted))

    def refused_row(self, row):
        self.ask(["words a 1", row, "list"], ["kept", "refused row", "a 1"])


class RowTest(ShellCase):
    def test_nothing(self):
        self.ask([""], [])
        self.ask(["", "", ""], [])
        self.assertEqual(shown(""), "")
        self.ask(["", "list", "", "words a", "", "list", ""], ["kept", "a 0"])

    def test_rows_that_are_none_of_the_commands(self):
        for row in ["keep", "keep a b", "words", "drop", "drop a b", "list a", "run", "lists", "Keep a", "LIST", "x",
                    ".", "..", "kept", "keepa", "drop  a", "dropa", "show a", "word a 1", "run a,a", "a", "run a <a"]:
            self.refused_row(row)

    def test_blanks(self):
        for row in [" ", "  ", " list", "list ", "drop a ", " drop a", "drop  a", "words  a", "words a  1",
                    "words a 1 ", "words a ", " words a 1", "run a ", "run  a", " run a", "run a  a", "keep a ",
                    " keep a", "keep  a"]:
            self.refused_row(row)

    def test_names(self):
        for name in ["abcdefghi", "A", "aB", "a1", "1", "a.b", "a-b", "a+", "", "a:", "<", "a<", "<a", "a_b"]:
            for command in ["drop", "words", "keep", "run"]:
                self.refused_row(command + " " + name)
        self.refused_row("words abcdefghi 1")
        for name in ["a", "abcdefgh", "zzzzzzzz", "main", "list", "keep", "run", "num"]:
            self.ask(["words " + name, "list", "drop " + name, "list"], ["kept", name + " 0", "dropped"])

    def test_numbers(self):
        for number in ["65536", "00", "01", "007", "-1", "+1", "1.", "a", "1a", "99999", "655350", "0x1", "1,2"]:
            self.refused_row("words b " + number)
            self.refused_row("words b 1 " + number + " 2")
        self.ask(["words b 0 65535 10 9999", "list"], ["kept", "b 4"])

    def test_a_row_that_is_none_takes_no_rows_behind_it(self):
        self.ask(["keep aA", "list", "words a", ".", "list"], ["refused row", "kept", "refused row", "a 0"])

    def test_programs(self):
        self.ask(["words a"] + ["run" + " a" * 9], ["kept", "refused row"])
        for row in ["run a<", "run <a", "run a<a<a", "run a<<a", "run a< a", "run a<A", "run a<abcdefghi", "run a<1",
                    "run abcdefghi<a", "run a>a", "run a <a"]:
            self.refused_row(row)


class FileTest(ShellCase):
    def test_keep(self):
        self.ask(["keep a", ".", "list"], ["kept", "a 0"])
        self.ask(["keep a", "", ".", "list"], ["kept", "a 0"])
        self.ask(["keep a", "", "", ".", "list"], ["kept", "a 1"])
        self.ask(["keep a", "abc", "d e", ".", "list"], ["kept", "a 7"])
        self.ask(["keep a", " abc=&<+-()[]09", ".", "list"], ["kept", "a 15"])
        self.ask(["keep a", "list", "drop a", "keep b", ".", "list"], ["kept", "a 18"])
        self.ask(["keep a", " .", "..", ".", "list"], ["refused sign"])

    def test_keep_in_the_place_of_an_older_one(self):
        self.ask(["keep a", "abc", ".", "keep a", "x", ".", "list"], ["kept", "kept", "a 1"])

    def test_keep_without_its_last_row(self):
        self.ask(["keep a"], ["refused row"])
        self.ask(["words b 1", "keep a", "abc", "list"], ["kept", "refused row"])
        self.ask(["keep a", "list", "list", ". ", " .", ".."], ["refused row"])
        self.ask(["keep b", ".", "keep a", ""], ["kept", "refused row"])
        self.ask(["keep a", "A", "."], ["refused sign"])

    def test_refused_sign(self):
        for row in ["A", "a.", ".a", "a,b", "a:b", "x~", "num a\n\nb;", "\"", "a_b", "a*b", "a>b", "{", "!"]:
            self.ask(["words a 5", "keep a", row, ".", "list"], ["kept", "refused sign", "a 1"])

    def test_a_sign_is_looked_at_ahead_of_the_room(self):
        self.ask(["keep a", "x" * 17, ".", "keep a", "x" * 17 + "A", ".", "list"], ["refused room", "refused sign"],
                 blocks=1)

    def test_refused_room(self):
        self.ask(["words a" + " 1" * 16, "words b 1", "words c", "list"],
                 ["kept", "refused room", "kept", "a 16", "c 0"], blocks=1)
        self.ask(["keep a", "x" * 32, ".", "keep b", "x", ".", "words a" + " 5" * 33, "words a 1", "keep b", "x", ".",
                  "list"],
                 ["kept", "refused room", "refused room", "kept", "kept", "a 1", "b 1"], blocks=2)

    def test_words(self):
        self.ask(["words a", "words b 1 2 3", "list"], ["kept", "kept", "a 0", "b 3"])
        self.ask(["words a 1 2", "words a 5", "list"], ["kept", "kept", "a 1"])
        self.ask(["words a" + " 65535" * 300, "list"], ["kept", "a 300"])

    def test_drop(self):
        self.ask(["drop a"], ["refused file"])
        self.ask(["words a 1", "drop b", "drop a", "drop a", "list"],
                 ["kept", "refused file", "dropped", "refused file"])
        self.ask(["words a" + " 1" * 16, "drop a", "words b" + " 1" * 16, "list"], ["kept", "dropped", "kept", "b 16"],
                 blocks=1)

    def test_list(self):
        self.ask(["list"], [])
        self.ask(["list", "words b 1", "words a", "words ab 4 4", "list", "drop a", "list"],
                 ["kept", "kept", "kept", "a 0", "ab 2", "b 1", "dropped", "ab 2", "b 1"])


class RunTest(ShellCase):
    def test_one_program(self):
        self.ask([keep("t", TELL), "run t"], ["kept", "1 7", "1 4095", "1 ended"])
        self.ask([keep("f", FAULTY), "run f"], ["kept", "1 1", "1 fault"])
        self.ask([keep("e", ENDLESS), "run e"], ["kept", "1 going"], beats=500)
        self.ask([keep("t", TELL), "run t"], ["kept", "1 going"], beats=0)

    def test_words_given(self):
        rows = [keep("c", COUNT), "words w 3", "words none"]
        self.ask(rows + ["run c<w"], ["kept"] * 3 + ["1 3", "1 2", "1 1", "1 ended"])
        self.ask(rows + ["run c<none", "run c"], ["kept"] * 3 + ["1 ended", "1 ended"])
        told = shown("\n".join(rows + ["run c<w c<none c c<w"])).split("\n")[3:]
        self.assertEqual([row for row in told if row[0] == "1"], ["1 3", "1 2", "1 1", "1 ended"])
        self.assertEqual([row for row in told if row[0] == "4"], ["4 3", "4 2", "4 1", "4 ended"])
        self.assertEqual(told[-4:], ["1 ended", "2 ended", "3 ended", "4 ended"])

    def test_a_programs_file_given(self):
        text = "num n\nmain\nask n\ntell n\nask n\ntell n\nend"
        self.ask([keep("p", text), "run p<p"], ["kept", "1 15", "1 22", "1 ended"])
        self.ask([keep("p", text), "words w 300 0", "run p<w"], ["kept", "kept", "1 300", "1 0", "1 ended"])

    def test_one_program_twice(self):
        told = shown(keep("t", TELL) + "\nrun t t").split("\n")[1:]
        self.assertEqual(sorted(told[:4]), ["1 4095", "1 7", "2 4095", "2 7"])
        self.assertEqual(told[4:], ["1 ended", "2 ended"])

    def test_eight_programs(self):
        rows = [keep("t", TELL), keep("f", FAULTY), "run t f t f t f t f"]
        told = shown("\n".join(rows)).split("\n")[2:]
        self.assertEqual(told[-8:], [str(k + 1) + [" ended", " fault"][k % 2] for k in range(8)])

    def test_no_such_file(self):
        rows = [keep("t", TELL), keep("bad", "x"), "words w 1"]
        for row in ["run u", "run t u", "run t<u", "run u<w", "run t<w t<u", "run bad u", "run bad<u",
                    "run bad bad<u t"]:
            self.ask(rows + [row], ["kept"] * 3 + ["refused file"])

    def test_refused_line(self):
        for text, row in [("x", 0), ("", 0), ("main", 1), ("main\nend\n", 2), ("main\ntell a\nend", 1),
                          ("num a\nmain\ntell a\nend\nend", 4), ("num a\nnum a\nmain\nend", 1)]:
            self.ask([keep("p", text), keep("t", TELL), "run p", "run t p t"],
                     ["kept", "kept", "refused line 1 " + str(row), "refused line 2 " + str(row)])
        self.ask(["keep p", ".", "run p"], ["kept", "refused line 1 0"])

    def test_words_that_are_no_signs(self):
        main = "14 2 10 15"
        end = "6 15 5"
        self.ask(["words p " + main + " 0 " + end, "run p"], ["kept", "1 ended"])
        for words, row in [("47", 0), ("99 0 1", 0), (main + " 0 47", 1), ("0 0 65535 0", 2),
                           (main + " 0 " + end + " 0 47", 2), (main + " 0 0 0 " + end + " 50", 3)]:
            self.ask(["words p " + words, "run p"], ["kept", "refused line 1 " + str(row)])
        # The first row can not stand, but the word that is no sign's is looked at ahead of all else.
        self.ask(["words p 2 0 2 0 47", "run p"], ["kept", "refused line 1 2"])

    def test_refused_kind(self):
        self.ask([keep("p", "flag f\nmain\ntell 1\ntell f\nend"), keep("t", TELL), "run p", "run t t p"],
                 ["kept", "kept", "refused kind 1 1", "refused kind 3 1"])
        self.ask([keep("p", "flag f\npart a\ngive way\nend\nmain\nif f\nf = 1\nend\nend"), "run p"],
                 ["kept", "refused kind 1 2"])

    def long_program(self):
        names = [one + another for one in "abcdefgh" for another in "abcde"]
        return "\n".join(["list " + name + " 99" for name in names] + ["main"] + ["give way"] * 200 + ["end"])

    def test_refused_long_of_an_image(self):
        self.ask([keep("p", self.long_program()), keep("t", TELL), "run p", "run t p"],
                 ["kept", "kept", "refused long", "refused long"])

    def test_refused_long_of_a_town(self):
        text = "\n".join(["list a" + letter + " 99" for letter in "abcdefghij"] + ["main", "tell 1", "end"])
        rows = [keep("p", text), "words w" + " 1" * 3000, "words v" + " 1" * 200]
        self.ask(rows + ["run p", "run p p p", "run p p p p", "run p<w", "run p<v"],
                 ["kept"] * 3 + ["1 1", "1 ended", "1 1", "2 1", "3 1", "1 ended", "2 ended", "3 ended", "refused long",
                                 "refused long", "1 1", "1 ended"])

    def test_the_first_program_in_order(self):
        bad = {"line": ("x", "refused line {} 0"), "kind": ("flag f\nmain\ntell f\nend", "refused kind {} 0"),
               "long": (self.long_program(), "refused long")}
        rows = [keep(name, text) for name, (text, _) in bad.items()] + [keep("t", TELL)]
        names = sorted(bad)
        for one in names:
            for another in names:
                wanted = bad[one][1]
                self.ask(rows + ["run t " + one + " " + another, "run " + one + " " + another + " u"],
                         ["kept"] * 4 + [wanted.format(2), "refused file"])

    def test_a_run_changes_nothing_of_the_floor(self):
        text = "list x 9\nnum n\nmain\nwhile (n<9)\nx[n] = n\nask n\ntell n\nend\nend"
        rows = [keep("p", text), "words w 1 2 3 4 5 6", keep("t", TELL)]
        told = shown("\n".join(rows + ["list", "run p<w", "list", "run p<w t", "run p<w", "list"])).split("\n")[3:]
        listed = told[:3]
        self.assertEqual(listed, ["p " + str(len(text)), "t " + str(len(TELL)), "w 6"])
        self.assertEqual(told[-3:], listed)
        once = ["1 1", "1 2", "1 3", "1 4", "1 5", "1 6", "1 65535", "1 fault"]
        self.assertEqual(told[3:14], once + listed)
        self.assertEqual(told[-11:-3], once)

    def test_two_shells_by_themselves(self):
        self.ask(["words a 1"], ["kept"])
        self.ask(["list"], [])

    def rows_of_run(self, answer):
        rows = [str(task + 1) + " " + str(word) for task, word in answer[0]]
        return rows + [str(task + 1) + " " + end for task, end in enumerate(answer[1])]

    def test_drawn_runs(self):
        source = random.Random(96)
        ends = {}
        for _ in range(60):
            count = source.randrange(1, 6)
            texts = [drawn_text(source) for _ in range(count)]
            given = [drawn_given(source) for _ in range(count)]
            quota, beats = source.choice([1, 5, 60, 4095]), source.choice([300, 3000, 9000])
            rows = []
            for place, (text, words) in enumerate(zip(texts, given)):
                letter = "abcdef"[place]
                rows += [keep("p" + letter, text), " ".join(["words", "w" + letter] + [str(word) for word in words])]
            rows += ["run " + " ".join("p" + letter + "<w" + letter for letter in "abcdef"[:count])]
            trees = [tree_of(text) for text in texts]
            self.assertTrue(all(looked(tree) for tree in trees))
            answer = town_run([image_of(tree)[0] for tree in trees], given, quota, beats)
            told = shown("\n".join(rows), 256, quota, beats).split("\n")
            self.assertEqual(told, ["kept"] * (2 * count) + self.rows_of_run(answer))
            for task, tree in enumerate(trees):
                words = [word for one, word in answer[0] if one == task]
                meaning = meant(tree, given[task], 3000)
                self.assertEqual(meaning[0][:len(words)], words)
                if answer[1][task] != "going":
                    self.assertEqual((words, answer[1][task]), meaning[:2])
                ends[answer[1][task]] = ends.get(answer[1][task], 0) + 1
        self.assertEqual(len(ends), 3)


if __name__ == "__main__":
    unittest.main()
