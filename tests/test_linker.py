import copy
import random
import unittest

from gatetown.errors import GivenTwice, Lacking, TooLong
from gatetown.linker import linked
from gatetown.rows import assembled
from gatetown.running import lone


def module(words, own=(), needed=(), given=None):
    return (list(words), list(own), list(needed), dict(given or {}), [])


def linked_by_words(objects):
    """Point [14], word by word: ("long",), ("twice", name), ("lacking", name), or the answer."""
    begins = [sum(len(one[0]) for one in objects[:k]) for k in range(len(objects))]
    if sum(len(one[0]) for one in objects) > 4095:
        return ("long",)
    for k, one in enumerate(objects):
        for name in one[3]:
            if any(name in other[3] for other in objects[:k]):
                return ("twice", name)
    place_of = {name: begins[k] + place for k, one in enumerate(objects) for name, place in one[3].items()}
    for one in objects:
        for _, name in sorted(one[2]):
            if name not in place_of:
                return ("lacking", name)
    words = []
    for begin, one in zip(begins, objects):
        for place, word in enumerate(one[0]):
            op, number = divmod(word, 4096)
            for needed_at, name in one[2]:
                if needed_at == place:
                    number += place_of[name]
            if place in one[1]:
                number += begin
            words.append(op * 4096 + number % 4096)
    return (words, begins)


class LinkerTest(unittest.TestCase):
    def ask(self, objects):
        before = copy.deepcopy(objects)
        told = linked(objects)
        self.assertEqual(objects, before)
        self.assertEqual(told, linked_by_words(objects))
        self.assertEqual([type(part) for part in told], [list, list])
        self.assertIs(type(told), tuple)
        return told

    def refused(self, objects, kind, name=None):
        before = copy.deepcopy(objects)
        with self.assertRaises(kind) as caught:
            linked(objects)
        self.assertIs(type(caught.exception), kind)
        if name is not None:
            self.assertEqual(caught.exception.name, name)
        self.assertEqual(objects, before)

    def test_no_module(self):
        self.assertEqual(self.ask([]), ([], []))

    def test_one_module(self):
        self.assertEqual(self.ask([module([])]), ([], [0]))
        self.assertEqual(self.ask([module([5, 4097], [1], [], {"a": 1})]), ([5, 4097], [0]))
        self.assertEqual(self.ask([module([5, 4099], [], [(1, "a")], {"a": 1})]), ([5, 4100], [0]))

    def test_several_modules(self):
        one = assembled("give go\nneed out\ngo:\nset 7\nlink out\ngoto go")
        another = assembled("give out\nspace 2\nout:\nset out+1\nmove 3")
        self.assertEqual(self.ask([one, another]),
                         ([7, 12 * 4096 + 5, 6 * 4096, 0, 0, 6, 11 * 4096 + 3], [0, 3]))
        self.assertEqual(self.ask([another, one]),
                         ([0, 0, 3, 11 * 4096 + 3, 7, 12 * 4096 + 2, 6 * 4096 + 4], [0, 4]))

    def test_modules_without_words(self):
        empty = assembled("give here\nhere:")
        user = assembled("need here\nset here\nset 1")
        self.assertEqual(self.ask([empty, user, module([])]), ([0, 1], [0, 0, 2]))
        self.assertEqual(self.ask([user, empty]), ([2, 1], [0, 2]))

    def test_numbers_go_round_at_4096(self):
        first = module([9] * 10, [], [], {"a": 7})
        own = module([4096 + 4090, 65535, 4096 * 3 + 4085, 4086], [0, 1, 2, 3])
        self.assertEqual(self.ask([first, own])[0][10:], [4096 + 4, 61440 + 9, 4096 * 3 + 4095, 0])
        needed = module([4096 + 4090, 65535, 4096 * 3 + 4088, 4089], [], [(k, "a") for k in range(4)])
        self.assertEqual(self.ask([first, needed])[0][10:], [4096 + 1, 61440 + 6, 4096 * 3 + 4095, 0])

    def test_words_that_are_in_no_list_stay(self):
        self.assertEqual(self.ask([module([1, 2, 3]), module([65535, 0, 4096])])[0], [1, 2, 3, 65535, 0, 4096])

    def test_lists_in_any_order(self):
        words = [k * 4096 + k for k in range(8)]
        given = module([1, 2, 3], [], [], {"a": 1, "b": 2})
        rising = module(words, [0, 2, 5], [(1, "a"), (3, "b"), (7, "a")])
        turned = module(words, [5, 0, 2], [(7, "a"), (1, "a"), (3, "b")])
        self.assertEqual(self.ask([given, rising]), self.ask([given, turned]))

    def test_a_name_given_by_a_later_module(self):
        objects = [assembled("need b\ngoto b"), assembled("set 1"), assembled("give b\nset 1\nb:\nset 2")]
        self.assertEqual(self.ask(objects), ([6 * 4096 + 3, 1, 1, 2], [0, 1, 2]))

    def test_one_object_twice(self):
        one = assembled("set 1\na:\ngoto a")
        self.assertEqual(self.ask([one, one]), ([1, 6 * 4096 + 1, 1, 6 * 4096 + 3], [0, 2]))
        self.refused([assembled("give a\na:")] * 2, GivenTwice, "a")

    def test_too_long(self):
        self.assertEqual(len(self.ask([module([1] * 4095)])[0]), 4095)
        self.assertEqual(self.ask([module([1] * 4000), module([2] * 95), module([])])[1], [0, 4000, 4095])
        self.refused([module([1] * 4096)], TooLong)
        self.refused([module([1] * 4000), module([2] * 96)], TooLong)
        self.refused([module([1] * 4095), module([]), module([2])], TooLong)
        self.refused([module([1] * 2000)] * 3, TooLong)

    def test_given_twice(self):
        self.refused([module([], given={"a": 0}), module([], given={"a": 0})], GivenTwice, "a")
        self.refused([module([], given={"a": 0, "b": 0, "c": 0}), module([], given={"d": 0, "c": 0, "a": 0})],
                     GivenTwice, "c")
        self.refused([module([], given={"z": 0}), module([], given={"b": 0}), module([], given={"c": 0, "b": 0}),
                      module([], given={"z": 0})], GivenTwice, "b")

    def test_lacking(self):
        self.refused([module([0], needed=[(0, "a")])], Lacking, "a")
        self.refused([module([0] * 9, needed=[(8, "z"), (5, "b"), (3, "c"), (7, "a")], given={"c": 0})], Lacking, "b")
        self.refused([module([0], needed=[(0, "a")], given={"b": 0}),
                      module([0, 0], needed=[(1, "d"), (0, "b")], given={"a": 0}),
                      module([0], needed=[(0, "c")])], Lacking, "d")

    def test_the_order_of_the_refusals(self):
        twice = module([0], given={"a": 0})
        lacks = module([0], needed=[(0, "z")])
        self.refused([lacks, twice, twice], GivenTwice, "a")
        self.refused([lacks, twice, twice, module([1] * 4095)], TooLong)
        self.refused([lacks, module([1] * 4095)], TooLong)
        self.refused([twice, twice, module([1] * 4095)], TooLong)
        self.refused([lacks, twice], Lacking, "z")

    def drawn_module(self, source):
        words = [source.randrange(65536) for _ in range(source.choice([0, 1, 3, 8, 8, 1400]))]
        places = list(range(min(len(words), 12)))
        source.shuffle(places)
        cut = source.randrange(len(places) + 1)
        names = ["a", "b", "c", "d", "e", "f", "g", "h"]
        given = {name: source.randrange(len(words) + 1) for name in source.sample(names, 8) if source.randrange(9) == 0}
        return module(words, places[:cut // 2],
                      [(place, source.choice(names[:4])) for place in places[cut // 2:cut]], given)

    def test_against_the_words_of_the_document(self):
        source = random.Random(41)
        kinds = {}
        for _ in range(3000):
            objects = [self.drawn_module(source) for _ in range(source.randrange(7))]
            if source.randrange(2):
                objects.append(module([1], given={name: 0 for name in "abcd" if not any(name in one[3]
                                                                                     for one in objects)}))
            wanted = linked_by_words(objects)
            kind = wanted[0] if isinstance(wanted[0], str) else "fine"
            kinds[kind] = kinds.get(kind, 0) + 1
            if kind == "fine":
                self.ask(objects)
            else:
                refusal = {"long": TooLong, "twice": GivenTwice, "lacking": Lacking}[kind]
                self.refused(objects, refusal, wanted[1] if len(wanted) > 1 else None)
        self.assertGreater(min(kinds.get(kind, 0) for kind in ["long", "twice", "lacking", "fine"]), 20, kinds)

    def test_what_is_told_is_the_askers_own(self):
        objects = [module([1, 2]), module([3])]
        one = linked(objects)
        another = linked(objects)
        self.assertIsNot(one[0], another[0])
        self.assertIsNot(one[1], another[1])
        one[0].clear()
        one[1].clear()
        self.assertEqual(linked(objects), another)
        self.assertEqual(objects[0][0], [1, 2])
        alone = [module([7])]
        self.assertIsNot(linked(alone)[0], alone[0][0])

    def test_linked_modules_run(self):
        main = assembled("need twice\nneed left\nset 21\nlink twice\nload left\ncall 1\ncall 0")
        part = assembled("give twice\ngive left\nspace 1\ntwice:\nstore back\nset 21\nstore left\nadd left\n"
                         "store left\nload back\nmove 3\nback:\nword 0\nleft:\nword 0")
        image, begins = linked([main, part])
        self.assertEqual(begins, [0, 5])
        self.assertEqual(lone(image, [], 200)[:2], ([42], "ended"))


if __name__ == "__main__":
    unittest.main()
