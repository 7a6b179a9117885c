import random
import unittest

from gatetown.gates import Maker, beat, is_net
from gatetown.parts import added, all_chosen, is_less, is_none, others_of, picked
from plain import bits_of, number_of, packed, unpacked, walk

FIGURES = 6
ROUND = 1 << FIGURES


def tally_net():
    """A tally with a peak: inputs a number and an order (add, take, set), keepers the tally and the peak."""
    maker = Maker(FIGURES + 2, 2 * FIGURES)
    number = maker.inputs()[:FIGURES]
    low, high = maker.inputs()[FIGURES:]
    tally = maker.keepers()[:FIGURES]
    peak = maker.keepers()[FIGURES:]
    sum_wires, over = added(maker, tally, number, 0)
    rest, no_borrow = added(maker, tally, others_of(maker, number), 1)
    orders = [maker.both(maker.other(low), maker.other(high)), maker.both(low, maker.other(high)),
              maker.both(maker.other(low), high)]
    stay = maker.both(low, high)
    new = picked(maker, [(orders[0], sum_wires), (orders[1], rest), (orders[2], number), (stay, tally)])
    new_peak = all_chosen(maker, is_less(maker, peak, new), new, peak)
    flags = [maker.both(orders[0], over), maker.both(orders[1], maker.other(no_borrow)), is_none(maker, new)]
    return maker.net(new + new_peak, new + flags)


def plain_tally(tally, peak, number, order):
    over = order == 0 and tally + number >= ROUND
    under = order == 1 and tally < number
    new = [(tally + number) % ROUND, (tally - number) % ROUND, number, tally][order]
    return new, max(peak, new), [int(over), int(under), int(new == 0)]


class WholeNetTest(unittest.TestCase):
    def run_worlds(self, worlds, beats):
        net = tally_net()
        self.assertTrue(is_net(net))
        source = random.Random(worlds)
        kept = [0] * (2 * FIGURES)
        states = [(0, 0)] * worlds
        for _ in range(beats):
            given = [(source.choice([0, 1, ROUND - 1, source.randrange(ROUND)]), source.randrange(4))
                     for _ in range(worlds)]
            rows = [bits_of(number, FIGURES) + bits_of(order, 2) for number, order in given]
            old_rows = unpacked(kept, worlds)
            kept, outs = beat(net, kept, packed(rows, FIGURES + 2), worlds)
            kept_rows = unpacked(kept, worlds)
            out_rows = unpacked(outs, worlds)
            for k in range(worlds):
                new, peak, flags = plain_tally(*states[k], *given[k])
                states[k] = (new, peak)
                self.assertEqual((number_of(kept_rows[k][:FIGURES]), number_of(kept_rows[k][FIGURES:])), states[k])
                self.assertEqual((number_of(out_rows[k][:FIGURES]), out_rows[k][FIGURES:]), (new, flags))
                self.assertEqual(walk(net, old_rows[k], rows[k]), (kept_rows[k], out_rows[k]))

    def test_one_world(self):
        self.run_worlds(1, 60)

    def test_several_worlds(self):
        self.run_worlds(37, 20)

    def test_most_worlds(self):
        self.run_worlds(256, 6)


if __name__ == "__main__":
    unittest.main()
