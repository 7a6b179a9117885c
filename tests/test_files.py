import random
import unittest

from gatetown.errors import NoFile, NoRoom
from gatetown.files import Floor
from drawn import flags_in


class Plain:
    """Point [25] by the words of the files alone."""

    def __init__(self, blocks):
        self.blocks = blocks
        self.files = {}

    def needed(self, words):
        return -(-len(words) // 16)

    def free(self):
        return self.blocks - sum(self.needed(words) for words in self.files.values())

    def keep(self, name, words):
        if self.needed(words) > self.free() + self.needed(self.files.get(name, [])):
            raise NoRoom()
        self.files[name] = list(words)

    def drop(self, name):
        if name not in self.files:
            raise NoFile()
        del self.files[name]


class FloorCase(unittest.TestCase):
    def look(self, floor, blocks, files):
        """The whole floor by its deeds: just these files, in blocks of their own."""
        self.assertEqual(floor.names(), sorted(files))
        owned = []
        for name, words in files.items():
            self.assertEqual(floor.words_of(name), words)
            numbers = floor.blocks_of(name)
            self.assertEqual(len(numbers), -(-len(words) // 16))
            filled = words + [0] * (16 * len(numbers) - len(words))
            self.assertEqual([word for number in numbers for word in floor.block(number)], filled)
            owned.extend(numbers)
        self.assertEqual(len(set(owned)), len(owned))
        self.assertTrue(set(owned) <= set(range(blocks)))
        self.assertEqual(floor.free(), blocks - len(owned))
        for number in range(blocks):
            self.assertEqual(len(floor.block(number)), 16)
            if number not in owned:
                self.assertEqual(floor.block(number), [0] * 16)
        self.assertEqual(flags_in([floor.names(), floor.free()]), [])

    def refused(self, error, deed, *parts):
        with self.assertRaises(error) as caught:
            deed(*parts)
        self.assertIs(type(caught.exception), error)


class FloorTest(FloorCase):
    def test_an_empty_floor(self):
        for blocks in [1, 2, 256]:
            floor = Floor(blocks)
            self.look(floor, blocks, {})
            self.assertEqual((floor.names(), floor.free()), ([], blocks))

    def test_files_of_each_length(self):
        for count in [0, 1, 15, 16, 17, 31, 32, 33, 64]:
            floor = Floor(4)
            words = [65535 - k for k in range(count)]
            floor.keep("a", words)
            self.look(floor, 4, {"a": words})
            self.assertEqual(len(floor.blocks_of("a")), (count + 15) // 16)

    def test_all_that_fits_and_one_more(self):
        for blocks in [1, 3, 256]:
            floor = Floor(blocks)
            words = list(range(16 * blocks))
            floor.keep("all", words)
            self.look(floor, blocks, {"all": words})
            self.assertEqual(floor.free(), 0)
            floor.keep("none", [])
            self.refused(NoRoom, floor.keep, "b", [1])
            self.refused(NoRoom, floor.keep, "all", words + [1])
            self.refused(NoRoom, floor.keep, "none", [1])
            self.look(floor, blocks, {"all": words, "none": []})

    def test_kept_anew(self):
        floor = Floor(4)
        floor.keep("a", [1] * 20)
        floor.keep("b", [2] * 20)
        for words in [[3] * 32, [4] * 17, [5], [], [6] * 16, [7] * 30]:
            floor.keep("a", words)
            self.look(floor, 4, {"a": words, "b": [2] * 20})

    def test_room_only_without_the_older_one(self):
        floor = Floor(3)
        floor.keep("a", [1] * 33)
        floor.keep("a", list(range(48)))
        self.look(floor, 3, {"a": list(range(48))})
        floor.keep("a", [2] * 16)
        floor.keep("b", [3] * 16)
        floor.keep("b", [4] * 32)
        self.look(floor, 3, {"a": [2] * 16, "b": [4] * 32})
        self.refused(NoRoom, floor.keep, "b", [5] * 33)
        self.look(floor, 3, {"a": [2] * 16, "b": [4] * 32})

    def test_refused_keeps_change_nothing(self):
        floor = Floor(2)
        floor.keep("a", [1, 2, 3])
        before = [floor.block(0), floor.block(1), floor.blocks_of("a")]
        self.refused(NoRoom, floor.keep, "b", [9] * 17)
        self.refused(NoRoom, floor.keep, "a", [9] * 33)
        self.assertEqual([floor.block(0), floor.block(1), floor.blocks_of("a")], before)
        self.look(floor, 2, {"a": [1, 2, 3]})

    def test_drops(self):
        floor = Floor(3)
        floor.keep("a", [1] * 16)
        floor.keep("b", [2] * 16)
        floor.keep("c", [3] * 16)
        floor.drop("b")
        self.look(floor, 3, {"a": [1] * 16, "c": [3] * 16})
        floor.drop("a")
        floor.keep("d", list(range(1, 30)))
        self.look(floor, 3, {"c": [3] * 16, "d": list(range(1, 30))})
        floor.drop("d")
        floor.drop("c")
        self.look(floor, 3, {})
        floor.keep("e", [])
        floor.drop("e")
        self.look(floor, 3, {})

    def test_no_such_file(self):
        floor = Floor(2)
        floor.keep("a", [1])
        floor.keep("b", [])
        for name in ["c", "aa", "A", ""]:
            for deed in [floor.drop, floor.words_of, floor.blocks_of]:
                self.refused(NoFile, deed, name)
        floor.drop("b")
        for deed in [floor.drop, floor.words_of, floor.blocks_of]:
            self.refused(NoFile, deed, "b")
        self.look(floor, 2, {"a": [1]})

    def test_names_are_sorted(self):
        floor = Floor(1)
        for name in ["b", "ab", "z", "a", "abc", "ba", "zzzzzzzz"]:
            floor.keep(name, [])
        self.assertEqual(floor.names(), ["a", "ab", "abc", "b", "ba", "z", "zzzzzzzz"])

    def test_lists_changed_by_the_asker_change_nothing(self):
        floor = Floor(3)
        words = list(range(1, 21))
        floor.keep("a", words)
        floor.keep("b", [])
        words.append(5)
        words[0] = 99
        for ask in [lambda: floor.words_of("a"), lambda: floor.blocks_of("a"), floor.names, lambda: floor.block(0),
                    lambda: floor.block(2), lambda: floor.words_of("b"), lambda: floor.blocks_of("b")]:
            told = ask()
            before = list(told)
            self.assertIsNot(told, ask())
            told.append(7)
            told[0] = 8
            self.assertEqual(ask(), before)
        self.look(floor, 3, {"a": list(range(1, 21)), "b": []})

    def test_what_is_told_may_be_kept_again(self):
        floor = Floor(4)
        floor.keep("a", list(range(17)))
        floor.keep("b", floor.words_of("a"))
        floor.keep("a", floor.words_of("a"))
        floor.drop("b")
        self.look(floor, 4, {"a": list(range(17))})

    def test_two_floors_by_themselves(self):
        one, another = Floor(2), Floor(3)
        one.keep("a", [1])
        another.keep("b", [2] * 20)
        self.look(one, 2, {"a": [1]})
        self.look(another, 3, {"b": [2] * 20})
        one.drop("a")
        self.look(another, 3, {"b": [2] * 20})

    def test_drawn_deeds(self):
        source = random.Random(93)
        refusals = {}
        for _ in range(60):
            blocks = source.choice([1, 2, 5, 9, 30])
            floor, plain = Floor(blocks), Plain(blocks)
            for _ in range(40):
                name = source.choice(["a", "b", "c", "dd"])
                if source.randrange(4):
                    words = [source.randrange(65536) for _ in range(source.choice([0, 1, 15, 16, 17, 33, 80]))]
                    parts, deeds = (name, words), (floor.keep, plain.keep)
                else:
                    parts, deeds = (name,), (floor.drop, plain.drop)
                try:
                    deeds[1](*parts)
                except (NoRoom, NoFile) as refusal:
                    self.refused(type(refusal), deeds[0], *parts)
                    refusals[type(refusal)] = refusals.get(type(refusal), 0) + 1
                else:
                    deeds[0](*parts)
                self.look(floor, blocks, plain.files)
        self.assertGreater(min(refusals.values()), 50)


if __name__ == "__main__":
    unittest.main()
