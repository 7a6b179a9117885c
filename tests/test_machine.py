import random
import unittest

from gatetown.machine import asked, beat_of, first_state
from plain import FIGURES, STATE, WORD_EDGES, beat_by_words, drawn_cases, drawn_state, place_by_words, state_with


def row(op, number):
    return op * 4096 + number


def changed(state, **numbers):
    return tuple(numbers.get(name, value) for name, value in zip(STATE, state))


# A state in which no two numbers that a row could mix up are alike.
KERNEL = state_with(a=40001, x=30002, p=103, f=1, b=204, l=305, t=6, sa=50007, sx=60008, sp=409, c=2, n=511)
TASK = changed(KERNEL, m=1, t=0)


class AskedTest(unittest.TestCase):
    def test_first_state(self):
        self.assertEqual(first_state(), (0,) * 15)
        self.assertIs(type(first_state()), tuple)
        self.assertEqual({type(one) for one in first_state()}, {int})

    def test_ahead_of_a_fetch(self):
        self.assertEqual(asked(state_with(p=4095, b=7, i=row(9, 5), x=3)), 4095)
        self.assertEqual(asked(state_with(p=4095, b=7, m=1)), 6)
        self.assertEqual(asked(state_with(p=9, b=4095, m=1, l=0)), 8)

    def test_of_a_fetched_row(self):
        for op in range(16):
            reached = op in [9, 10]
            for mode, begin in [(0, 0), (1, 1000)]:
                state = state_with(i=row(op, 4000), x=200, p=77, f=1, b=1000, m=mode)
                wanted = (begin + (4200 if reached else 4000)) % 4096
                self.assertEqual(asked(state), wanted, (op, mode))

    def test_x_and_number_go_round_at_65536(self):
        for op in [9, 10]:
            self.assertEqual(asked(state_with(i=row(op, 10), x=65535, f=1)), 9)
            self.assertEqual(asked(state_with(i=row(op, 4095), x=65535, f=1, m=1, b=3)), 1)
            self.assertEqual(asked(state_with(i=row(op, 1), x=4095, f=1)), 0)

    def test_of_halted_states(self):
        self.assertEqual(asked(state_with(h=1, p=12, b=4090, m=1)), 6)
        self.assertEqual(asked(state_with(h=1, p=12, f=1, i=row(10, 7), x=9)), 16)

    def test_against_the_words_of_the_document(self):
        source = random.Random(7)
        for state, _ in drawn_cases(source, 60):
            self.assertEqual(asked(state), place_by_words(state)[1], state)

    def test_is_a_whole_number(self):
        self.assertIs(type(asked(first_state())), int)
        self.assertIs(type(asked(TASK)), int)


class BeatTest(unittest.TestCase):
    def ask(self, state, word, after, write=None, tell=None):
        told = beat_of(state, word)
        self.assertEqual(told, (after, write, tell), (state, word))
        self.assertIs(type(told), tuple)
        self.assertIs(type(told[0]), tuple)
        for one in told[0]:
            self.assertIs(type(one), int)
        for number, figures in zip(told[0], FIGURES):
            self.assertTrue(0 <= number < 1 << figures, told[0])

    # halted, fetch

    def test_a_halted_state_stays(self):
        for op in range(16):
            for mode in [0, 1]:
                for fetched in [0, 1]:
                    state = changed(KERNEL, h=1, m=mode, f=fetched, i=row(op, 6))
                    self.ask(state, 65535, state)

    def test_the_fetch(self):
        state = changed(KERNEL, f=0)
        self.ask(state, 65535, changed(state, i=65535, f=1))
        task = changed(TASK, f=0, t=1)
        self.ask(task, 8192, changed(task, i=8192, f=1))

    def test_the_fetch_at_the_end_of_a_stretch(self):
        for p, length, bars in [(0, 0, True), (0, 1, False), (304, 305, False), (305, 305, True), (306, 305, True),
                                (4094, 4095, False), (4095, 4095, True)]:
            state = changed(TASK, f=0, p=p, l=length, t=1, i=row(3, 3))
            if bars:
                after = changed(state, sa=40001, sx=30002, sp=p, c=1, m=0, p=0)
            else:
                after = changed(state, i=4711, f=1)
            self.ask(state, 4711, after)
            free = changed(state, m=0)
            self.ask(free, 4711, changed(free, i=4711, f=1))

    # traps

    def test_a_barred_place(self):
        for op in [1, 2, 3, 4, 5]:
            for number, bars in [(304, False), (305, True), (306, True), (4095, True)]:
                state = changed(TASK, i=row(op, number), t=1)
                after = changed(state, sa=40001, sx=30002, sp=103, c=1, m=0, p=0, f=0)
                if bars:
                    self.ask(state, 5, after)
                else:
                    self.assertEqual(beat_of(state, 5)[0][12], 4)

    def test_a_barred_place_by_x(self):
        for op in [9, 10]:
            for x, number, bars in [(300, 4, False), (300, 5, True), (65535, 0, True), (65535, 1, False),
                                    (65535, 305, False), (65535, 306, True), (4096, 0, True), (32768, 0, True)]:
                state = changed(TASK, i=row(op, number), x=x)
                if bars:
                    self.ask(state, 5, changed(state, sa=40001, sx=x, sp=103, c=1, m=0, p=0, f=0))
                else:
                    self.assertEqual(beat_of(state, 5)[0][2], 104)
                free = changed(state, m=0)
                self.assertEqual(beat_of(free, 5)[0][2], 104)

    def test_ops_without_a_place_are_not_barred(self):
        for op in [0, 6, 7, 8, 11, 12]:
            state = changed(TASK, i=row(op, 4092), l=0)
            self.assertEqual(beat_of(state, 5)[0][5], 1, op)

    def test_own_and_back_in_a_task(self):
        for op in [14, 15]:
            for number in list(range(16)) + [4095]:
                state = changed(TASK, i=row(op, number), t=1)
                self.ask(state, 5, changed(state, sa=40001, sx=30002, sp=103, c=2, m=0, p=0, f=0))

    def test_a_call(self):
        for number in [0, 1, 3, 4, 4095]:
            for state in [changed(KERNEL, i=row(13, number)), changed(TASK, i=row(13, number)),
                          changed(TASK, i=row(13, number), t=1, l=0)]:
                self.ask(state, 5, changed(state, sa=40001, sx=30002, sp=104, c=3, n=number, m=0, p=0, f=0))
        state = changed(TASK, i=row(13, 9), p=4095)
        self.ask(state, 5, changed(state, sa=40001, sx=30002, sp=0, c=3, n=9, m=0, p=0, f=0))

    # rows

    def both_modes(self, op, number, word, write=None, start=None, **numbers):
        """A row in either mode: as told, and p one more where p is not among what is told."""
        for state in [KERNEL, changed(TASK, l=4095)]:
            state = changed(state, i=row(op, number), **(start or {}))
            p = numbers.get("p", (state[2] + 1) % 4096)
            self.ask(state, word, changed(state, **{**numbers, "p": p, "f": 0}), write)

    def test_set(self):
        for number in [0, 1, 4095]:
            self.both_modes(0, number, 65535, a=number)

    def test_load_and_from(self):
        for word in WORD_EDGES:
            self.both_modes(1, 12, word, a=word)
            self.both_modes(9, 12, word, start={"x": 3}, a=word)

    def test_store_and_into(self):
        for a in WORD_EDGES:
            self.both_modes(2, 12, 77, a, start={"a": a})
            self.both_modes(10, 12, 77, a, start={"a": a, "x": 3})

    def test_add_take_and_both(self):
        for a in WORD_EDGES:
            for word in WORD_EDGES:
                self.both_modes(3, 12, word, start={"a": a}, a=(a + word) % 65536)
                self.both_modes(4, 12, word, start={"a": a}, a=(a - word) % 65536)
                self.both_modes(5, 12, word, start={"a": a}, a=a & word)
        self.both_modes(5, 12, 0b1100110011001100, start={"a": 0b1010101010101010}, a=0b1000100010001000)

    def test_goto_zero_and_below(self):
        for a in [0, 1, 32767, 32768, 65535]:
            for number in [0, 17, 4095]:
                self.both_modes(6, number, 5, start={"a": a}, p=number)
                self.both_modes(7, number, 5, start={"a": a}, p=number if a == 0 else 104)
                self.both_modes(8, number, 5, start={"a": a}, p=number if a >= 32768 else 104)

    def test_move(self):
        for more in [0, 4, 8, 4092]:
            for a in [0, 1, 4095, 4096, 32767, 32768, 65535]:
                self.both_modes(11, more, 5, start={"a": a}, x=a)
                self.both_modes(11, more + 1, 5, start={"a": a}, a=30002)
                self.both_modes(11, more + 2, 5, start={"a": a}, a=a // 2)
                self.both_modes(11, more + 3, 5, start={"a": a}, p=a % 4096)

    def test_link(self):
        for number in [0, 17, 4095]:
            self.both_modes(12, number, 5, a=104, p=number)
            self.both_modes(12, number, 5, start={"p": 4095}, a=0, p=number)

    def test_the_last_place(self):
        for op in [0, 1, 2, 3, 4, 5, 9, 10, 11]:
            for state in [KERNEL, changed(TASK, l=4095)]:
                state = changed(state, i=row(op, 0), p=4095, x=0)
                self.assertEqual(beat_of(state, 5)[0][2], 0, op)

    def test_own(self):
        for more in [0, 16, 4080]:
            for own, name in enumerate(["sa", "sx", "sp", "c", "n"]):
                state = changed(KERNEL, i=row(14, more + own))
                self.ask(state, 5, changed(state, a=state[STATE.index(name)], p=104, f=0))
            state = changed(KERNEL, i=row(14, more + 5))
            self.ask(state, 5, changed(state, h=1, p=104, f=0))
            state = changed(KERNEL, i=row(14, more + 6))
            self.ask(state, 5, changed(state, p=104, f=0), None, 40001)
            for own in [7, 14, 15]:
                state = changed(KERNEL, i=row(14, more + own))
                self.ask(state, 5, changed(state, p=104, f=0))
            for own, name in enumerate(["sa", "sx", "sp", "b", "l", "t"]):
                for a in WORD_EDGES:
                    state = changed(KERNEL, i=row(14, more + 8 + own), a=a)
                    wanted = a if own < 2 else a % 4096
                    self.ask(state, 5, changed(state, **{name: wanted, "p": 104, "f": 0}))

    def test_own_tells_each_a(self):
        for a in WORD_EDGES:
            state = changed(KERNEL, i=row(14, 6), a=a, p=4095)
            self.ask(state, 5, changed(state, p=0, f=0), None, a)

    def test_back(self):
        for number in [0, 5, 4095]:
            state = changed(KERNEL, i=row(15, number), t=1)
            self.ask(state, 5, changed(state, a=50007, x=60008, p=409, m=1, f=0))

    # the bell

    def test_the_bell_counts_rows_that_are_done_in_a_task(self):
        for op in [0, 1, 2, 3, 4, 5, 6, 7, 8, 9, 10, 11, 12]:
            for t, left in [(0, 0), (2, 1), (4095, 4094)]:
                state = changed(TASK, i=row(op, 12), x=3, t=t)
                after = beat_of(changed(state, t=0), 5)
                self.ask(state, 5, changed(after[0], t=left), after[1])
            state = changed(KERNEL, i=row(op, 12), x=3, t=1)
            self.assertEqual(beat_of(state, 5)[0][8], 1)

    def test_the_bell_rings(self):
        for op in [0, 1, 2, 3, 4, 5, 6, 7, 8, 9, 10, 11, 12]:
            for number in [12, 13, 14, 15]:
                state = changed(TASK, i=row(op, number), x=3, t=1)
                done = beat_of(changed(state, t=0), 5)
                new = dict(zip(STATE, done[0]))
                after = changed(done[0], t=0, sa=new["a"], sx=new["x"], sp=new["p"], c=4, m=0, p=0, f=0)
                self.ask(state, 5, after, done[1])

    def test_the_bell_saves_the_new_words(self):
        state = changed(TASK, i=row(3, 12), t=1)
        self.ask(state, 5, changed(state, a=40006, sa=40006, sx=30002, sp=104, c=4, m=0, p=0, f=0, t=0))
        state = changed(TASK, i=row(11, 0), t=1)
        self.ask(state, 5, changed(state, x=40001, sa=40001, sx=40001, sp=104, c=4, m=0, p=0, f=0, t=0))
        state = changed(TASK, i=row(6, 77), t=1)
        self.ask(state, 5, changed(state, sa=40001, sx=30002, sp=77, c=4, m=0, p=0, f=0, t=0))
        state = changed(TASK, i=row(2, 12), t=1, p=4095)
        self.ask(state, 5, changed(state, sa=40001, sx=30002, sp=0, c=4, m=0, p=0, f=0, t=0), 40001)

    def test_neither_a_fetch_nor_a_trap_counts(self):
        for t in [1, 2]:
            state = changed(TASK, f=0, t=t)
            self.assertEqual(beat_of(state, 5)[0][8], t)
            for word, cause in [(row(1, 305), 1), (row(14, 0), 2), (row(15, 0), 2), (row(13, 2), 3)]:
                after = beat_of(changed(TASK, i=word, t=t), 5)[0]
                self.assertEqual((after[8], after[12]), (t, cause))

    # all of them

    def test_against_the_words_of_the_document(self):
        source = random.Random(8)
        causes = {}
        for state, word in drawn_cases(source, 400):
            told = beat_of(state, word)
            self.assertEqual(told, beat_by_words(state, word), (state, word))
            if state[14] == 0 and state[5] == 1 and told[0][5] == 0:
                causes[told[0][12]] = causes.get(told[0][12], 0) + 1
        self.assertEqual(sorted(causes), [1, 2, 3, 4])
        self.assertGreater(min(causes.values()), 300)

    def test_nothing_is_written_or_told_by_other_rows(self):
        source = random.Random(9)
        for state, word in drawn_cases(source, 60):
            told = beat_of(state, word)
            op, number = divmod(state[3], 4096)
            if told[1] is not None:
                self.assertIn(op, [2, 10])
                self.assertEqual(told[1], state[0])
            if told[2] is not None:
                self.assertEqual((op, number % 16, state[5]), (14, 6, 0))
            if state[4] == 0 or state[14] == 1:
                self.assertEqual(told[1:], (None, None))

    def test_what_was_told_may_be_handed_in_again(self):
        source = random.Random(10)
        for _ in range(40):
            state = drawn_state(source)
            for _ in range(20):
                word = source.choice(WORD_EDGES + [row(source.randrange(16), source.randrange(32))])
                told = beat_of(state, word)
                self.assertEqual(told, beat_by_words(state, word))
                state = told[0]


if __name__ == "__main__":
    unittest.main()
