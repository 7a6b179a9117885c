import copy
import random
import unittest
from unittest import mock

from gatetown import walking
from gatetown.errors import TooLong
from gatetown.making import image_of
from gatetown.meaning import meant
from gatetown.reading import tree_of
from gatetown.running import lone
from gatetown.walking import walked
from drawn import drawn_given, drawn_tree, tree_with

ROWS = ["ask a", "while (b<a)", "xs[b] = (b+5)", "tell xs[b]", "b = (b+1)", "end", "f = yes", "tell b"]
ASKING = ["tell 1", "tell 2", "stop", "tell 3"]
FAULTY = ["tell 1", "tell xs[a]", "tell xs[4]", "tell 2"]


class WalkedTest(unittest.TestCase):
    def ask(self, tree, given, beats):
        before = copy.deepcopy((tree, given))
        self.assertIs(walked(tree, given, beats), True)
        self.assertEqual((tree, given), before)

    def test_every_count_of_beats_up_to_the_end_and_beyond(self):
        for rows, given in [(ROWS, [2]), (ROWS, []), (ASKING, []), (FAULTY, []), ([], []), (["while yes", "end"], [])]:
            for beats in list(range(130)) + [500, 2000]:
                self.ask(tree_with(*rows), given, beats)

    def test_drawn_programs(self):
        source = random.Random(86)
        for _ in range(150):
            tree, given = drawn_tree(source), drawn_given(source)
            ends = len([1 for trace in lone(image_of(tree)[0], given, 3000)[3] for _ in trace])
            for beats in [0, 1, source.randrange(200), ends - 1, ends, ends + 1, 3000]:
                self.ask(tree, given, max(beats, 0))

    def test_refused_as_the_image_is(self):
        names = [one + another for one in "abcdefgh" for another in "abcde"]
        rows = ["list " + name + " 99" for name in names] + ["main"] + ["give way"] * 200 + ["end"]
        for beats in [0, 100]:
            with self.assertRaises(TooLong):
                walked(tree_of("\n".join(rows)), [], beats)


class OtherwiseTest(unittest.TestCase):
    """An image, a run or a meaning that is off is found."""

    def with_image(self, tree, given, beats, change):
        def changed(asked):
            image, (begins, cells) = image_of(asked)
            change(image, begins, cells)
            return image, (begins, cells)

        with mock.patch.object(walking, "image_of", changed):
            return walked(tree, given, beats)

    def with_meaning(self, tree, given, beats, change):
        with mock.patch.object(walking, "meant", lambda *args: change(*meant(*args))):
            return walked(tree, given, beats)

    def test_as_it_is(self):
        self.assertIs(self.with_image(tree_with(*ROWS), [2], 500, lambda image, begins, cells: None), True)
        self.assertIs(self.with_meaning(tree_with(*ROWS), [2], 500, lambda *parts: parts), True)

    def test_a_begin_elsewhere(self):
        def turned(image, begins, cells):
            begins[0], begins[1] = begins[1], begins[0]

        def lost(image, begins, cells):
            begins[5] = 4000

        self.assertIs(self.with_image(tree_with(*ROWS), [2], 500, turned), False)
        self.assertIs(self.with_image(tree_with(*ROWS), [2], 500, lost), False)
        # The statement is not come to yet.
        self.assertIs(self.with_image(tree_with(*ROWS), [2], 20, lost), True)

    def test_a_cell_elsewhere(self):
        for name, other in [("a", "c"), ("b", "c"), ("xs", "ys")]:
            def turned(image, begins, cells):
                cells[name], cells[other] = cells[other], cells[name]

            self.assertIs(self.with_image(tree_with(*ROWS), [2], 500, turned), False)

    def test_a_word_of_the_image_exchanged(self):
        tree = tree_with(*ROWS)
        image = image_of(tree)[0]
        for place in range(12):
            def changed(words, begins, cells):
                words[place] = 13 * 4096 if words[place] != 13 * 4096 else 13 * 4096 + 4

            self.assertIs(self.with_image(tree, [2], 500, changed), False, place)
        self.assertGreater(len(image), 12)

    def test_another_meaning(self):
        tree = tree_with(*ROWS)
        changes = [lambda told, end, cells, steps: (told + [1], end, cells, steps),
                   lambda told, end, cells, steps: (told, "fault", cells, steps),
                   lambda told, end, cells, steps: (told, "going", cells, steps),
                   lambda told, end, cells, steps: (told, end, cells, steps[:-1]),
                   lambda told, end, cells, steps: (told, end, cells, steps + steps[-1:]),
                   lambda told, end, cells, steps: (told, end, cells, steps[:-1] + [(1, steps[-1][1], steps[-1][2])]),
                   lambda told, end, cells, steps: (told, end, cells, steps[:-1] + [(6, cells, [])])]
        for change in changes:
            self.assertIs(self.with_meaning(tree, [2], 500, change), False)
        # While the run is going, its begins alone count.
        for change in changes[:2]:
            self.assertIs(self.with_meaning(tree, [2], 60, change), True)

    def test_a_begin_is_come_to_ahead_of_its_first_row(self):
        tree = tree_with("tell 1", "tell 2")
        for beats, count in [(0, 0), (1, 1), (2, 1), (3, 1), (4, 1), (5, 2), (6, 2)]:
            for steps in range(3):
                def change(told, end, cells, found):
                    return told, end, cells, meant(tree, [], steps)[3]

                self.assertIs(self.with_meaning(tree, [], beats, change), steps == count, (beats, steps))

    def test_words_told_are_counted_and_the_same(self):
        tree = tree_with("tell 1", "tell 2", "tell 3", "tell 4")
        for told in [[], [1], [1, 2, 3], [1, 3], [2, 1]]:
            def change(words, end, cells, steps):
                return words, end, cells, steps[:2] + [(2, steps[2][1], told)] + steps[3:]

            self.assertIs(self.with_meaning(tree, [], 12, change), False)

    def test_steps_beyond_the_end_of_the_run(self):
        tree = tree_with("tell 1", "tell 2", "tell 3")

        def changed(image, begins, cells):
            image[4] = 13 * 4096

        # The image ends behind two words, the program tells a third one.
        self.assertIs(self.with_image(tree, [], 500, changed), False)


if __name__ == "__main__":
    unittest.main()
