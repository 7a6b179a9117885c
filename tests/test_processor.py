import copy
import random
import unittest

from gatetown.gates import beat, is_net
from gatetown.machine import asked, beat_of, first_state
from gatetown.processor import kept_of, net_beats, processor, states_of
from plain import FIGURES, bits_of, drawn_cases, drawn_state, drawn_word, number_of, state_with, walk

NET = processor()


def bits_of_state(state):
    return [bit for number, figures in zip(state, FIGURES) for bit in bits_of(number, figures)]


def plain_answer(state, word):
    return (asked(state),) + beat_of(state, word)


def exchanged(net, which, one, another):
    """A net of the same shape with two of its nexts (3) or outs (4) exchanged."""
    parts = copy.deepcopy(list(net))
    parts[which][one], parts[which][another] = parts[which][another], parts[which][one]
    return tuple(parts)


class NetTest(unittest.TestCase):
    def test_the_shape(self):
        net = processor()
        self.assertIs(type(net), tuple)
        self.assertTrue(is_net(net))
        self.assertEqual((net[0], net[1]), (16, 158))
        self.assertEqual((len(net[3]), len(net[4])), (158, 30))
        self.assertEqual([type(part) for part in net], [int, int, list, list, list])

    def test_the_same_each_time(self):
        one = processor()
        another = processor()
        self.assertEqual(one, another)
        before = copy.deepcopy(another)
        for part in [2, 3, 4]:
            self.assertIsNot(one[part], another[part])
            one[part].clear()
        self.assertEqual(another, before)
        self.assertEqual(processor(), before)

    def test_one_beat_wire_by_wire(self):
        source = random.Random(1)
        for state, word in [(first_state(), 0), (state_with(a=32768, f=1, i=8 * 4096 + 5, m=1, t=1), 7)] + \
                [(drawn_state(source), drawn_word(source)) for _ in range(20)]:
            kept, outs = walk(NET, bits_of_state(state), bits_of(word, 16))
            after, write, tell = beat_of(state, word)
            self.assertEqual(kept, bits_of_state(after))
            self.assertEqual(outs[:12], bits_of(asked(state), 12))
            self.assertEqual(outs[12], 0 if write is None else 1)
            self.assertEqual(outs[13:29], bits_of(0 if write is None else write, 16))
            self.assertEqual(outs[29], 0 if tell is None else 1)

    def ask(self, cases):
        for first in range(0, len(cases), 256):
            some = cases[first:first + 256]
            states = [state for state, _ in some]
            words = [word for _, word in some]
            told = net_beats(NET, states, words)
            self.assertEqual(len(told), len(some))
            for case, answer in zip(some, told):
                self.assertEqual(answer, plain_answer(case[0], case[1]), case)

    def test_every_op_in_either_mode(self):
        self.ask(drawn_cases(random.Random(2), 250))

    def test_states_drawn_from_all(self):
        source = random.Random(3)
        self.ask([(tuple(source.randrange(1 << figures) for figures in FIGURES), source.randrange(65536))
                  for _ in range(5000)])

    def test_the_guard_at_its_edge(self):
        cases = []
        for op in [1, 2, 3, 4, 5, 9, 10]:
            for length in [0, 1, 2, 63, 64, 2047, 2048, 4094, 4095]:
                for number in [length - 1, length, length + 1]:
                    for x in [0, 1, 4095, 4096, 32768, 65535, 65536 - number]:
                        state = state_with(a=9, x=x % 65536, i=op * 4096 + number % 4096, f=1, m=1, l=length, b=4000)
                        cases.append((state, 77))
                    cases.append((state_with(p=number % 4096, m=1, l=length, t=1), 8192))
        self.ask(cases)

    def test_owns_and_moves(self):
        cases = []
        for number in list(range(32)) + [4080, 4095]:
            for op in [11, 14, 15]:
                for mode in [0, 1]:
                    for t in [0, 1, 2]:
                        for a in [0, 32767, 32768, 65535]:
                            cases.append((state_with(a=a, x=30002, p=4095, i=op * 4096 + number, f=1, m=mode, b=204,
                                                     l=305, t=t, sa=50007, sx=60008, sp=409, c=5, n=511), 1))
        self.ask(cases)

    def test_sums_at_their_edges(self):
        edges = [0, 1, 2, 255, 256, 4095, 4096, 32767, 32768, 65534, 65535]
        cases = []
        for op in [3, 4, 5, 7, 8]:
            for a in edges:
                for word in edges:
                    cases.append((state_with(a=a, i=op * 4096 + 5, f=1, p=4095), word))
                    cases.append((state_with(a=a, i=op * 4096 + 5, f=1, m=1, l=6, t=1), word))
        self.ask(cases)

    def test_halted_states_keep_all_and_tell_nothing(self):
        source = random.Random(4)
        states = [drawn_state(source, op, mode, fetched, 1)
                  for op in range(16) for mode in [0, 1] for fetched in [0, 1] for _ in range(4)]
        words = [drawn_word(source) for _ in states]
        kept = kept_of(states)
        ins = [sum(((word >> figure) & 1) << k for k, word in enumerate(words)) for figure in range(16)]
        after, outs = beat(NET, kept, ins, len(states))
        self.assertEqual(after, kept)
        self.assertEqual(outs[12:], [0] * 18)
        for state, answer in zip(states, net_beats(NET, states, words)):
            self.assertEqual(answer, (asked(state), state, None, None))

    def test_the_written_word_is_low_where_nothing_is_written(self):
        source = random.Random(5)
        states = [state for state, _ in drawn_cases(source, 3)]
        for first in range(0, len(states), 256):
            some = states[first:first + 256]
            words = [drawn_word(source) for _ in some]
            ins = [sum(((word >> figure) & 1) << k for k, word in enumerate(words)) for figure in range(16)]
            outs = beat(NET, kept_of(some), ins, len(some))[1]
            for wire in outs[13:29]:
                self.assertEqual(wire & ~outs[12], 0)
            for k, state in enumerate(some):
                write = beat_of(state, words[k])[1]
                self.assertEqual((outs[12] >> k) & 1, 0 if write is None else 1)

    def test_a_run_of_gates_is_a_run_of_the_plain_processor(self):
        source = random.Random(6)
        states = [drawn_state(source) for _ in range(100)]
        kept = kept_of(states)
        for _ in range(30):
            words = [source.choice([drawn_word(source), source.randrange(16) * 4096 + source.randrange(20)])
                     for _ in states]
            ins = [sum(((word >> figure) & 1) << k for k, word in enumerate(words)) for figure in range(16)]
            kept = beat(NET, kept, ins, len(states))[0]
            states = [beat_of(state, word)[0] for state, word in zip(states, words)]
            self.assertEqual(states_of(kept, len(states)), states)


class KeptTest(unittest.TestCase):
    def test_of_one_state(self):
        state = state_with(a=1, x=2, p=4, f=1, l=2048, c=5, n=3, h=1)
        kept = kept_of([state])
        self.assertIs(type(kept), list)
        self.assertEqual(kept, bits_of_state(state))
        self.assertEqual(len(kept), 158)
        self.assertEqual(states_of(kept, 1), [state])

    def test_each_figure_has_its_keeper(self):
        first = 0
        for part, figures in enumerate(FIGURES):
            for figure in range(figures):
                state = tuple(1 << figure if k == part else 0 for k in range(15))
                wanted = [0] * 158
                wanted[first + figure] = 1
                self.assertEqual(kept_of([state]), wanted)
                self.assertEqual(states_of(wanted, 1), [state])
            first += figures

    def test_of_several_states(self):
        source = random.Random(7)
        for count in [2, 3, 64, 255, 256]:
            states = [drawn_state(source) for _ in range(count)]
            before = list(states)
            kept = kept_of(states)
            self.assertEqual(states, before)
            for k, state in enumerate(states):
                self.assertEqual([(value >> k) & 1 for value in kept], bits_of_state(state))
            self.assertTrue(all(0 <= value < 1 << count for value in kept))
            handed = list(kept)
            told = states_of(kept, count)
            self.assertEqual(kept, handed)
            self.assertEqual(told, states)
            self.assertIs(type(told), list)
            self.assertEqual({type(state) for state in told}, {tuple})
            self.assertEqual({type(one) for state in told for one in state}, {int})

    def test_full_states(self):
        full = tuple((1 << figures) - 1 for figures in FIGURES)
        self.assertEqual(kept_of([full]), [1] * 158)
        self.assertEqual(kept_of([first_state(), full]), [2] * 158)
        self.assertEqual(states_of([2] * 158, 2), [first_state(), full])
        self.assertEqual(kept_of([full] * 256), [(1 << 256) - 1] * 158)

    def test_what_is_told_is_the_askers_own(self):
        states = [first_state(), first_state()]
        kept = kept_of(states)
        kept[0] = 99
        self.assertEqual(kept_of(states)[0], 0)
        told = states_of(kept_of(states), 2)
        told.clear()
        self.assertEqual(states_of(kept_of(states), 2), states)


class NetBeatsTest(unittest.TestCase):
    def test_several_states_as_each_alone(self):
        source = random.Random(11)
        for count in [1, 2, 5, 65]:
            states = [drawn_state(source, source.randrange(16)) for _ in range(count)]
            words = [drawn_word(source) for _ in states]
            before = copy.deepcopy((NET, states, words))
            told = net_beats(NET, states, words)
            self.assertEqual((NET, states, words), before)
            self.assertIs(type(told), list)
            for k, answer in enumerate(told):
                self.assertEqual([answer], net_beats(NET, [states[k]], [words[k]]))
                self.assertIs(type(answer), tuple)
                self.assertEqual(len(answer), 4)

    def test_256_states(self):
        source = random.Random(12)
        states = [drawn_state(source, k % 16, k // 16 % 2) for k in range(256)]
        words = [drawn_word(source) for _ in states]
        self.assertEqual(net_beats(NET, states, words),
                         [plain_answer(state, word) for state, word in zip(states, words)])

    def test_what_is_written_and_told(self):
        states = [state_with(a=0, f=1, i=2 * 4096 + 9), state_with(a=65535, f=1, i=10 * 4096 + 9, x=4090),
                  state_with(a=0, f=1, i=14 * 4096 + 6), state_with(a=40001, f=1, i=14 * 4096 + 22),
                  state_with(a=40001, f=1, i=0)]
        told = net_beats(NET, states, [1, 2, 3, 4, 5])
        self.assertEqual([(place, write, tell) for place, _, write, tell in told],
                         [(9, 0, None), (3, 65535, None), (6, None, 0), (22, None, 40001), (0, None, None)])
        self.assertEqual({type(one) for answer in told for one in answer if one is not None}, {int, tuple})

    def test_another_net_with_two_nexts_exchanged(self):
        first = [sum(FIGURES[:k]) for k in range(15)]
        state = state_with(a=5, f=1, i=4096 + 9, sa=1)
        one = exchanged(NET, 3, first[0], first[1])
        after = net_beats(one, [state], [0b111])[0][1]
        self.assertEqual(after, state_with(a=0b110, x=1, p=1, i=4096 + 9, sa=1))
        self.assertEqual(net_beats(NET, [state], [0b111])[0][1], state_with(a=7, p=1, i=4096 + 9, sa=1))
        other = exchanged(NET, 3, first[9], first[14])
        self.assertEqual(net_beats(other, [state], [0])[0][1], state_with(p=1, i=4096 + 9, h=1))

    def test_another_net_with_two_outs_exchanged(self):
        state = state_with(a=0b1010, f=1, i=2 * 4096 + 0b100)
        self.assertEqual(net_beats(NET, [state], [0])[0], (4, state_with(a=10, p=1, i=state[3]), 10, None))
        places = exchanged(NET, 4, 0, 2)
        self.assertEqual(net_beats(places, [state], [0])[0][0], 1)
        words = exchanged(NET, 4, 13, 14)
        self.assertEqual(net_beats(words, [state], [0])[0][2], 0b1001)
        flags = exchanged(NET, 4, 12, 29)
        self.assertEqual(net_beats(flags, [state], [0])[0][2:], (None, 10))
        tells = state_with(a=77, f=1, i=14 * 4096 + 6)
        self.assertEqual(net_beats(NET, [tells], [0])[0][2:], (None, 77))
        self.assertEqual(net_beats(flags, [tells], [0])[0][2:], (0, None))

    def test_another_net_that_tells_behind_a_change_of_a(self):
        tells = state_with(a=5, f=1, i=14 * 4096 + 6)
        nexts = exchanged(NET, 3, 0, 1)
        place, after, write, tell = net_beats(nexts, [tells], [0])[0]
        self.assertEqual((after[0], write, tell), (6, None, 5))

    def test_bits_are_read_from_the_lowest_figure_on(self):
        told = net_beats(NET, [state_with(p=1)], [2])[0]
        self.assertEqual(told, (1, state_with(p=1, i=2, f=1), None, None))
        self.assertEqual(number_of(bits_of(told[0], 12)), 1)

    def test_more_states_than_promised_are_not_refused(self):
        states = [first_state()] * 300
        self.assertEqual(len(net_beats(NET, states, [0] * 300)), 300)


if __name__ == "__main__":
    unittest.main()
