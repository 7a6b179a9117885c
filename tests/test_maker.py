import copy
import itertools
import random
import unittest

from gatetown.gates import Maker, beat, is_net
from plain import all_rows, outs_of, walk

TWO = {
    "nand": lambda a, b: 1 - a * b,
    "both": lambda a, b: a * b,
    "either": lambda a, b: 1 if a + b > 0 else 0,
    "unlike": lambda a, b: (a + b) % 2,
}


class DeedsTest(unittest.TestCase):
    """Each deed over all values of its wires: 0, 1, and three inputs in any places."""

    def ask(self, deed, plain, wires):
        maker = Maker(3, 0)
        told = getattr(maker, deed)(*wires)
        self.assertIs(type(told), int)
        self.assertTrue(is_net(maker.net([], [told])))
        rows = all_rows(3)
        for row, outs in zip(rows, outs_of(maker, [told], rows)):
            values = [0, 1] + row
            self.assertEqual(outs, [plain(*[values[wire] for wire in wires])], (deed, wires, row))

    def test_two_wires(self):
        for deed, plain in TWO.items():
            for wires in itertools.product(range(5), repeat=2):
                self.ask(deed, plain, wires)

    def test_other(self):
        for wire in range(5):
            self.ask("other", lambda a: 1 - a, (wire,))

    def test_chosen(self):
        for wires in itertools.product(range(5), repeat=3):
            self.ask("chosen", lambda which, a, b: a if which == 1 else b, wires)

    def test_deeds_of_gates_wires(self):
        source = random.Random(7)
        deeds = dict(TWO)
        deeds["other"] = lambda a: 1 - a
        deeds["chosen"] = lambda which, a, b: a if which == 1 else b
        counts = {"other": 1, "chosen": 3}
        for _ in range(20):
            maker = Maker(2, 2)
            wires = [0, 1] + maker.inputs() + maker.keepers()
            done = []
            for _ in range(15):
                deed = source.choice(sorted(deeds))
                places = [source.randrange(len(wires)) for _ in range(counts.get(deed, 2))]
                wires.append(getattr(maker, deed)(*[wires[place] for place in places]))
                done.append((deed, places))
            net = maker.net([0, 1], wires)
            self.assertTrue(is_net(net))
            for row in all_rows(4):
                values = [0, 1] + row
                for deed, places in done:
                    values.append(deeds[deed](*[values[place] for place in places]))
                self.assertEqual(walk(net, row[2:], row[:2]), ([0, 1], values))
                self.assertEqual(beat(net, row[2:], row[:2], 1), ([0, 1], values))


class MakerTest(unittest.TestCase):
    def test_inputs_and_keepers(self):
        for ins in range(4):
            for keeps in range(4):
                maker = Maker(ins, keeps)
                wires = list(range(2, 2 + ins + keeps))
                for _ in range(2):
                    self.assertEqual(maker.inputs(), wires[:ins])
                    self.assertEqual(maker.keepers(), wires[ins:])
                    maker.other(0)

    def test_inputs_and_keepers_are_new_lists(self):
        for ins, keeps in [(0, 0), (2, 2), (2, 0), (0, 3)]:
            maker = Maker(ins, keeps)
            told = [maker.inputs(), maker.inputs(), maker.keepers(), maker.keepers()]
            self.assertEqual(len({id(one) for one in told}), 4)
            wanted = copy.deepcopy(told)
            told[0].append(99)
            told[2].append(99)
            self.assertEqual([maker.inputs(), told[1], maker.keepers(), told[3]], wanted)
            self.assertTrue(is_net(maker.net([0] * keeps, maker.inputs())))
            self.assertEqual(maker.net([0] * keeps, [])[:2], (ins, keeps))

    def test_each_nand_is_a_new_gate(self):
        maker = Maker(2, 1)
        self.assertEqual([maker.nand(2, 3), maker.nand(2, 3), maker.nand(5, 6), maker.nand(0, 1)], [5, 6, 7, 8])
        self.assertEqual(maker.net([8], [5, 0]), (2, 1, [(2, 3), (2, 3), (5, 6), (0, 1)], [8], [5, 0]))

    def test_nand_in_an_empty_net(self):
        maker = Maker(0, 0)
        self.assertEqual(maker.nand(0, 1), 2)
        self.assertEqual(maker.net([], [2]), (0, 0, [(0, 1)], [], [2]))

    def test_net_without_gates(self):
        net = Maker(1, 2).net([2, 3], [])
        self.assertEqual(net, (1, 2, [], [2, 3], []))
        self.assertIs(type(net), tuple)
        self.assertEqual(Maker(0, 0).net([], []), (0, 0, [], [], []))

    def test_net_of_no_gates_stays_empty(self):
        maker = Maker(0, 0)
        net = maker.net([], [])
        maker.other(1)
        self.assertEqual(net, (0, 0, [], [], []))

    def test_a_net_that_was_told_stays(self):
        maker = Maker(2, 1)
        nexts = [maker.both(2, 4)]
        outs = [maker.unlike(2, 3), 1]
        net = maker.net(nexts, outs)
        before = copy.deepcopy(net)
        beats = [beat(net, [1], [a, b], 1) for a in range(2) for b in range(2)]
        maker.either(2, 3)
        maker.chosen(2, 3, 4)
        nexts[0] = 0
        nexts.append(1)
        outs[0] = 0
        outs.append(1)
        self.assertEqual(net, before)
        self.assertEqual([beat(net, [1], [a, b], 1) for a in range(2) for b in range(2)], beats)

    def test_the_maker_stays_when_a_net_is_changed(self):
        maker = Maker(1, 1)
        wire = maker.other(2)
        told = maker.net([wire], [wire])
        wanted = copy.deepcopy(told)
        told[2].clear()
        told[3].append(7)
        told[4][0] = 7
        self.assertEqual(maker.net([wire], [wire]), wanted)
        self.assertEqual(maker.nand(0, 0), wire + 1)

    def test_the_lists_of_nets_are_all_new(self):
        maker = Maker(0, 1)
        maker.other(2)
        wires = [2]
        nets = [maker.net(wires, wires), maker.net(wires, wires)]
        lists = [part for net in nets for part in net[2:]] + [wires]
        self.assertEqual(len({id(one) for one in lists}), 7)
        nets[0][3][0] = 0
        self.assertEqual((nets[0][4], nets[1][3], wires), ([2], [2], [2]))

    def test_net_changes_nothing_handed_in(self):
        maker = Maker(1, 2)
        nexts = [1, 0]
        outs = [2, 3, 3]
        maker.net(nexts, outs)
        self.assertEqual((nexts, outs), ([1, 0], [2, 3, 3]))

    def test_two_makers_are_apart(self):
        one = Maker(1, 0)
        another = Maker(1, 0)
        one.other(2)
        self.assertEqual(another.net([], []), (1, 0, [], [], []))
        self.assertEqual(another.nand(2, 2), 3)


if __name__ == "__main__":
    unittest.main()
