import copy
import random
import unittest

from gatetown.gates import beat, is_net
from plain import packed, random_net, unpacked, walk

FAR = 10 ** 30


class IsNetTest(unittest.TestCase):
    def ask(self, net, wanted):
        before = copy.deepcopy(net)
        answer = is_net(net)
        self.assertIs(answer, wanted, net)
        self.assertEqual(net, before)

    def test_nets_with_nothing_of_a_kind(self):
        self.ask((0, 0, [], [], []), True)
        self.ask((0, 0, [], [], [0, 1]), True)
        self.ask((0, 0, [(0, 1), (2, 2)], [], [3]), True)
        self.ask((3, 0, [], [], [4]), True)
        self.ask((0, 2, [], [3, 0], []), True)
        self.ask((1, 1, [(2, 3)], [4], []), True)
        self.ask((0, 0, [], [], [2]), False)
        self.ask((0, 1, [], [], []), False)
        self.ask((0, 0, [], [0], []), False)

    def test_a_gates_wires_are_told_ahead(self):
        for ins, keeps, ahead in [(0, 0, []), (2, 1, []), (1, 2, [(0, 0), (1, 5)])]:
            own = 2 + ins + keeps + len(ahead)
            nexts = [0] * keeps
            for wire in range(own):
                self.ask((ins, keeps, ahead + [(wire, 0)], nexts, []), True)
                self.ask((ins, keeps, ahead + [(0, wire)], nexts, []), True)
                self.ask((ins, keeps, ahead + [(wire, wire)], nexts, []), True)
            for wire in [own, own + 1, own + 2, 1000, FAR, -1, -2, -own, -FAR]:
                later = [(0, 0), (1, 1), (0, 1)]
                self.ask((ins, keeps, ahead + [(wire, 0)] + later, nexts, []), False)
                self.ask((ins, keeps, ahead + [(0, wire)] + later, nexts, []), False)
                self.ask((ins, keeps, ahead + [(wire, wire)] + later, nexts, []), False)

    def test_each_gate_is_asked(self):
        good = [(0, 1), (2, 0), (3, 2), (4, 4)]
        self.ask((0, 0, good, [], [5]), True)
        for k in range(len(good)):
            self.ask((0, 0, good[:k] + [(k + 2, 0)] + good[k + 1:], [], [5]), False)

    def test_nexts_and_outs_at_the_edges(self):
        for ins, keeps, gates in [(0, 1, []), (2, 1, []), (1, 2, [(2, 3)]), (0, 3, [(0, 0), (5, 1)])]:
            last = 2 + ins + keeps + len(gates) - 1
            fill = [0] * (keeps - 1)
            for wire in range(last + 1):
                self.ask((ins, keeps, gates, fill + [wire], [0]), True)
                self.ask((ins, keeps, gates, [wire] + fill, [0]), True)
                self.ask((ins, keeps, gates, [0] + fill, [0, wire]), True)
                self.ask((ins, keeps, gates, [0] + fill, [wire, wire, 0]), True)
            for wire in [last + 1, last + 2, FAR, -1, -last, -FAR]:
                self.ask((ins, keeps, gates, fill + [wire], [0]), False)
                self.ask((ins, keeps, gates, [wire] + fill, [0]), False)
                self.ask((ins, keeps, gates, [0] + fill, [0, wire]), False)
                self.ask((ins, keeps, gates, [0] + fill, [wire, 0]), False)

    def test_as_many_nexts_as_keepers(self):
        for keeps in range(4):
            for count in range(6):
                self.ask((2, keeps, [(0, 1)], [1] * count, [0]), count == keeps)

    def test_counts_below_nought(self):
        self.ask((-1, 0, [], [], []), False)
        self.ask((-2, 0, [], [], []), False)
        self.ask((0, -1, [], [], []), False)
        self.ask((-1, 2, [(2, 0)], [0, 1], [2]), False)
        self.ask((3, -1, [(2, 0)], [], [2]), False)
        self.ask((-1, -1, [], [], []), False)
        self.ask((-FAR, 0, [], [], []), False)
        self.ask((-1, 1, [], [0], []), False)

    def test_counts_that_are_great(self):
        self.ask((FAR, 0, [(FAR + 1, 0), (FAR + 2, 0)], [], [FAR + 3]), True)
        self.ask((FAR, 0, [(FAR + 2, 0)], [], []), False)
        self.ask((FAR, 0, [], [], [FAR + 2]), False)
        self.ask((0, FAR, [], [], []), False)

    def test_random_nets(self):
        source = random.Random(2)
        for k in range(60):
            self.ask(random_net(source, k % 4, k % 3, k % 7, k % 5), True)


class BeatTest(unittest.TestCase):
    def ask(self, net, kept, ins, worlds):
        before = copy.deepcopy((net, kept, ins))
        told = beat(net, kept, ins, worlds)
        self.assertEqual((net, kept, ins), before)
        self.assertIs(type(told), tuple)
        self.assertEqual([type(part) for part in told], [list, list])
        kept_rows = unpacked(kept, worlds)
        in_rows = unpacked(ins, worlds)
        wanted = [walk(net, kept_rows[k], in_rows[k]) for k in range(worlds)]
        self.assertEqual(told[0], packed([one[0] for one in wanted], len(net[3])))
        self.assertEqual(told[1], packed([one[1] for one in wanted], len(net[4])))
        for value in told[0] + told[1]:
            self.assertIs(type(value), int)
            self.assertTrue(0 <= value < 1 << worlds)
        return told

    def test_one_gate(self):
        net = (2, 0, [(2, 3)], [], [4])
        self.assertEqual(beat(net, [], [0b1100, 0b1010], 4), ([], [0b0111]))
        for a in range(2):
            for b in range(2):
                self.assertEqual(beat(net, [], [a, b], 1), ([], [1 - a * b]))

    def test_random_nets_bit_by_bit(self):
        source = random.Random(3)
        for worlds in [1, 2, 3, 8, 63, 64, 65, 255, 256]:
            for k in range(8):
                net = random_net(source, k, 7 - k, 5 * k, 6)
                kept = [source.randrange(1 << worlds) for _ in range(7 - k)]
                ins = [source.randrange(1 << worlds) for _ in range(k)]
                self.ask(net, kept, ins, worlds)

    def test_all_low_and_all_high(self):
        source = random.Random(4)
        for worlds in [1, 256]:
            high = (1 << worlds) - 1
            net = random_net(source, 3, 3, 20, 10)
            for value in [0, high]:
                self.ask(net, [value] * 3, [value] * 3, worlds)
                self.ask(net, [high - value] * 3, [value] * 3, worlds)

    def test_wires_that_are_no_gates(self):
        # Wires 0 and 1, the inputs 2 and 3, the keepers 4 and 5.
        net = (2, 6, [], [0, 1, 2, 3, 4, 5], [5, 4, 3, 2, 1, 0])
        self.assertTrue(is_net(net))
        for worlds in [1, 5, 256]:
            high = (1 << worlds) - 1
            ins = [high, 0]
            kept = [high // 3, high - high // 3, 0, 0, 0, 0]
            told = self.ask(net, kept, ins, worlds)
            self.assertEqual(told[0], [0, high, high, 0, kept[0], kept[1]])
            self.assertEqual(told[1], [kept[1], kept[0], 0, high, high, 0])

    def test_gates_of_fixed_wires(self):
        net = (0, 0, [(0, 0), (0, 1), (1, 0), (1, 1)], [], [2, 3, 4, 5])
        for worlds in [1, 7, 256]:
            high = (1 << worlds) - 1
            self.assertEqual(beat(net, [], [], worlds), ([], [high, high, high, 0]))

    def test_no_keepers_no_outs(self):
        self.assertEqual(beat((0, 0, [], [], []), [], [], 1), ([], []))
        self.assertEqual(beat((0, 0, [], [], []), [], [], 256), ([], []))
        self.assertEqual(beat((1, 1, [(2, 3)], [4], []), [2], [3], 2), ([1], []))
        self.assertEqual(beat((2, 0, [(2, 3)], [], [4, 4]), [], [1, 3], 2), ([], [2, 2]))

    def test_each_world_is_by_itself(self):
        source = random.Random(5)
        worlds = 40
        net = random_net(source, 5, 4, 60, 12)
        kept = [source.randrange(1 << worlds) for _ in range(4)]
        ins = [source.randrange(1 << worlds) for _ in range(5)]
        told = beat(net, kept, ins, worlds)
        for world in [0, 1, 20, 39]:
            bit = 1 << world
            alone = beat(net, [value >> world & 1 for value in kept], [value >> world & 1 for value in ins], 1)
            for whole, single in zip(told[0] + told[1], alone[0] + alone[1]):
                self.assertEqual(whole >> world & 1, single)
            changed = beat(net, [value ^ bit for value in kept], [value ^ bit for value in ins], worlds)
            for old, new in zip(told[0] + told[1], changed[0] + changed[1]):
                self.assertEqual(old | bit, new | bit)

    def test_values_and_worlds_beyond_the_bounds(self):
        net = (1, 1, [(2, 3)], [2], [3, 4, 0, 1])
        self.assertEqual(beat(net, [6], [13], 2), ([1], [2, 3, 0, 3]))
        worlds = 300
        high = (1 << worlds) - 1
        self.assertEqual(beat(net, [high], [1], worlds), ([1], [high, high - 1, 0, high]))

    def test_told_lists_are_the_askers_own(self):
        net = (1, 2, [(2, 3)], [2, 5], [2, 5])
        kept = [1, 2]
        ins = [3]
        first = beat(net, kept, ins, 2)
        wanted = copy.deepcopy(first)
        self.assertEqual(first[0], first[1])
        lists = [first[0], first[1], kept, ins, net[2], net[3], net[4]]
        self.assertEqual(len({id(one) for one in lists}), len(lists))
        first[0].append(9)
        first[1][0] = 9
        self.assertEqual(beat(net, kept, ins, 2), wanted)
        self.assertEqual(net, (1, 2, [(2, 3)], [2, 5], [2, 5]))
        self.assertEqual((kept, ins), ([1, 2], [3]))

    def test_one_list_handed_in_as_several(self):
        wires = [2, 3]
        net = (2, 2, [(2, 3)], wires, wires)
        values = [1, 2]
        told = beat(net, values, values, 2)
        self.assertEqual(told, ([1, 2], [1, 2]))
        self.assertIsNot(told[0], told[1])
        told[0][0] = 7
        self.assertEqual((told[1], values, wires), ([1, 2], [1, 2], [2, 3]))

    def test_empty_lists_told_are_two(self):
        told = beat((0, 0, [], [], []), [], [], 1)
        self.assertIsNot(told[0], told[1])

    def test_what_was_told_is_handed_in_again(self):
        source = random.Random(6)
        net = random_net(source, 2, 5, 30, 3)
        kept = [source.randrange(256) for _ in range(5)]
        for _ in range(6):
            ins = [source.randrange(256) for _ in range(2)]
            kept = self.ask(net, kept, ins, 8)[0]


if __name__ == "__main__":
    unittest.main()
