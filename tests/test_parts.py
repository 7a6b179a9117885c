import copy
import random
import unittest

from gatetown.gates import Maker, is_net
from gatetown.parts import added, all_chosen, is_less, is_none, others_of, picked
from plain import all_rows, bits_of, number_of, outs_of

INS = 8


def value_of(wires, row):
    """The plain number on a list of wires that are 0, 1 or inputs."""
    return number_of([([0, 1] + row)[wire] for wire in wires])


def wide_rows(figures, extra):
    """Worlds of two numbers of so many figures and some wires more, the edges among them."""
    source = random.Random(figures)
    great = (1 << figures) - 1
    edges = [0, 1, great, great - 1, (great + 1) // 2, great // 2]
    pairs = [(one, another) for one in edges for another in edges]
    for _ in range(110):
        pairs.append((source.randrange(great + 1), source.randrange(great + 1)))
        near = source.randrange(great)
        pairs.append((near, near + source.randrange(2)))
    rows = []
    for one, another in pairs:
        for more in all_rows(extra):
            rows.append(bits_of(one, figures) + bits_of(another, figures) + more)
    return rows


def mixed_pairs(source, count):
    """Pairs of lists of wires, alike in length, with 0, 1 and the same wires in several places."""
    pairs = [([], []), ([0], [1]), ([1], [0]), ([2], [2]), ([1, 1, 1], [0, 0, 1]), ([2, 2, 2], [3, 3, 3]),
             ([2, 3, 4, 5], [6, 7, 8, 9]), ([2, 3, 4, 5], [2, 3, 4, 5]), ([9, 8, 7], [7, 8, 9])]
    for k in range(count):
        figures = k % 6
        pairs.append(([source.randrange(INS + 2) for _ in range(figures)],
                      [source.randrange(INS + 2) for _ in range(figures)]))
    return pairs


class PartsTest(unittest.TestCase):
    def setUp(self):
        self.rows = all_rows(INS)
        self.pairs = mixed_pairs(random.Random(8), 24)

    def outs(self, maker, wires, rows):
        self.assertTrue(is_net(maker.net([], wires)))
        return outs_of(maker, wires, rows)

    def told_list(self, told, figures, *handed):
        self.assertIs(type(told), list)
        self.assertEqual(len(told), figures)
        for one in handed:
            self.assertIsNot(told, one)

    # added

    def ask_added(self, ones, others, carry, rows, ins):
        maker = Maker(ins, 0)
        before = copy.deepcopy((ones, others))
        told = added(maker, ones, others, carry)
        self.assertEqual((ones, others), before)
        self.assertIs(type(told), tuple)
        self.assertEqual(len(told), 2)
        self.told_list(told[0], len(ones), ones, others)
        for row, outs in zip(rows, self.outs(maker, told[0] + [told[1]], rows)):
            wanted = value_of(ones, row) + value_of(others, row) + value_of([carry], row)
            self.assertEqual(number_of(outs), wanted, (ones, others, carry, row))

    def test_added(self):
        for ones, others in self.pairs:
            for carry in [0, 1, 2, 9]:
                self.ask_added(ones, others, carry, self.rows, INS)

    def test_added_of_one_list_with_itself(self):
        ones = [2, 3, 4]
        self.ask_added(ones, ones, 5, self.rows, INS)

    def test_added_of_no_figures_tells_the_carry(self):
        for carry in [0, 1, 2]:
            self.ask_added([], [], carry, self.rows, INS)

    def test_added_of_many_figures(self):
        for figures in [12, 16]:
            ones = list(range(2, 2 + figures))
            others = list(range(2 + figures, 2 + 2 * figures))
            rows = wide_rows(figures, 1)
            for carry in [0, 1, 2 + 2 * figures]:
                self.ask_added(ones, others, carry, rows, 2 * figures + 1)

    # others_of

    def test_others_of(self):
        for ones, _ in self.pairs:
            maker = Maker(INS, 0)
            before = list(ones)
            told = others_of(maker, ones)
            self.assertEqual(ones, before)
            self.told_list(told, len(ones), ones)
            great = (1 << len(ones)) - 1
            for row, outs in zip(self.rows, self.outs(maker, told, self.rows)):
                self.assertEqual(number_of(outs), great - value_of(ones, row), (ones, row))

    # all_chosen

    def ask_chosen(self, which, ones, others):
        maker = Maker(INS, 0)
        before = copy.deepcopy((ones, others))
        told = all_chosen(maker, which, ones, others)
        self.assertEqual((ones, others), before)
        self.told_list(told, len(ones), ones, others)
        for row, outs in zip(self.rows, self.outs(maker, told, self.rows)):
            wanted = value_of(ones if value_of([which], row) == 1 else others, row)
            self.assertEqual(number_of(outs), wanted, (which, ones, others, row))

    def test_all_chosen(self):
        for ones, others in self.pairs:
            for which in [0, 1, 2, 9]:
                self.ask_chosen(which, ones, others)

    def test_all_chosen_of_one_list_with_itself(self):
        ones = [2, 3, 0, 1]
        self.ask_chosen(4, ones, ones)

    # is_none

    def ask_none(self, ones, rows, ins):
        maker = Maker(ins, 0)
        before = list(ones)
        told = is_none(maker, ones)
        self.assertEqual(ones, before)
        self.assertIs(type(told), int)
        for row, outs in zip(rows, self.outs(maker, [told], rows)):
            self.assertEqual(outs, [1 if value_of(ones, row) == 0 else 0], (ones, row))

    def test_is_none(self):
        for ones, others in self.pairs:
            self.ask_none(ones, self.rows, INS)
            self.ask_none(others, self.rows, INS)
        for ones in [[], [0], [1], [0, 0, 0], [0, 1, 0], [2, 2, 2], list(range(2, 10)), [0, 5, 0]]:
            self.ask_none(ones, self.rows, INS)

    def test_is_none_of_sixteen_figures(self):
        rows = [bits_of(0, 16), bits_of(65535, 16)]
        for k in range(16):
            rows.append(bits_of(1 << k, 16))
            rows.append(bits_of(65535 - (1 << k), 16))
        self.ask_none(list(range(2, 18)), rows, 16)

    # is_less

    def ask_less(self, ones, others, rows, ins):
        maker = Maker(ins, 0)
        before = copy.deepcopy((ones, others))
        told = is_less(maker, ones, others)
        self.assertEqual((ones, others), before)
        self.assertIs(type(told), int)
        for row, outs in zip(rows, self.outs(maker, [told], rows)):
            wanted = 1 if value_of(ones, row) < value_of(others, row) else 0
            self.assertEqual(outs, [wanted], (ones, others, row))

    def test_is_less_both_ways_about(self):
        for ones, others in self.pairs:
            self.ask_less(ones, others, self.rows, INS)
            self.ask_less(others, ones, self.rows, INS)

    def test_is_less_of_a_number_with_itself(self):
        for ones in [[], [0], [1], [2], [2, 3, 4, 5], [5, 5, 1, 0]]:
            self.ask_less(ones, ones, self.rows, INS)
            self.ask_less(ones, list(ones), self.rows, INS)

    def test_is_less_of_many_figures(self):
        for figures in [12, 16]:
            ones = list(range(2, 2 + figures))
            others = list(range(2 + figures, 2 + 2 * figures))
            rows = wide_rows(figures, 0)
            self.ask_less(ones, others, rows, 2 * figures)
            self.ask_less(others, ones, rows, 2 * figures)

    # picked

    def ask_picked(self, pairs):
        maker = Maker(INS, 0)
        before = copy.deepcopy(pairs)
        told = picked(maker, pairs)
        self.assertEqual(pairs, before)
        self.told_list(told, len(pairs[0][1]), *[wires for _, wires in pairs])
        for row, outs in zip(self.rows, self.outs(maker, told, self.rows)):
            wanted = 0
            for wire, wires in pairs:
                if value_of([wire], row) == 1:
                    wanted |= value_of(wires, row)
            self.assertEqual(number_of(outs), wanted, (pairs, row))

    def test_picked_of_one_pair(self):
        for wires in [[], [0], [1], [3], [3, 4, 5], [2, 1, 0, 2]]:
            for wire in [0, 1, 2, 9]:
                self.ask_picked([(wire, wires)])

    def test_picked_of_several_pairs(self):
        self.ask_picked([(2, [3, 4]), (5, [6, 7])])
        self.ask_picked([(2, [4, 5]), (2, [6, 7]), (3, [8, 9])])
        self.ask_picked([(1, [2, 3, 4]), (1, [5, 6, 7])])
        self.ask_picked([(0, [2, 3, 4]), (0, [1, 1, 1]), (0, [5, 6, 7])])
        self.ask_picked([(2, [1, 0]), (3, [0, 1]), (4, [1, 1]), (5, [0, 0]), (6, [7, 8])])
        self.ask_picked([(2, [2, 2]), (3, [2, 3]), (3, [3, 2])])

    def test_picked_of_no_figures(self):
        self.ask_picked([(2, []), (3, []), (1, [])])

    def test_picked_with_one_list_in_several_pairs(self):
        wires = [4, 5]
        self.ask_picked([(2, wires), (3, wires)])

    def test_picked_of_random_pairs(self):
        source = random.Random(9)
        for k in range(20):
            self.ask_picked([(source.randrange(INS + 2), [source.randrange(INS + 2) for _ in range(k % 5)])
                             for _ in range(1 + k % 4)])

    # all of them

    def test_told_lists_are_the_askers_own(self):
        maker = Maker(2, 0)
        ones = [2, 3]
        for make in [lambda: added(maker, ones, ones, 0)[0], lambda: others_of(maker, ones),
                     lambda: all_chosen(maker, 1, ones, ones), lambda: picked(maker, [(1, ones)])]:
            first = make()
            kept = list(first)
            second = make()
            self.assertIsNot(first, second)
            first.append(99)
            second.clear()
            self.assertEqual(first[:-1], kept)
            self.assertEqual(len(make()), 2)
            self.assertEqual(ones, [2, 3])
        self.assertTrue(is_net(maker.net([], [])))

    def test_parts_of_keepers_and_gates(self):
        maker = Maker(2, 0)
        total, carry = added(maker, maker.inputs(), [1, 0], 0)
        again, last = added(maker, total, others_of(maker, maker.inputs()), carry)
        rows = all_rows(2)
        for row, outs in zip(rows, self.outs(maker, again + [last], rows)):
            total = number_of(row) + 1
            self.assertEqual(number_of(outs), total % 4 + (3 - number_of(row)) + total // 4)


if __name__ == "__main__":
    unittest.main()
