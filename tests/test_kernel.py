import copy
import random
import unittest

from gatetown.kernel import kernel_step, kernel_text
from gatetown.linker import linked
from gatetown.machine import first_state
from gatetown.rows import assembled
from gatetown.running import run
from drawn import flags_in, lists_in
from plain import state_with

GOING, ENDED, FAULT = 1, 0, 2
CAUSES = [(1, 0), (2, 0), (4, 0), (5, 1), (6, 2), (7, 3)]
CALLS = [(3, number) for number in [0, 1, 2, 3, 4, 5, 16, 17, 4095]]


def step_by_words(records, now, saved, memory):
    """Points [21] and [22], word by word."""
    c, sp, sa, sx, n = saved
    records = copy.deepcopy(records)
    told = []
    order = list(range(len(records)))
    if c != 0:
        record = records[now]
        record[0:3] = [sp, sa, sx]
        if c == 3 and n == 0:
            record[5] = 0
        elif c == 3 and n == 1:
            told = [record[8], sa]
        elif c == 3 and n == 3:
            if record[6] == record[7]:
                record[1] = 65535
            else:
                record[1] = memory.get(record[6], 0)
                record[6] += 1
        elif not (c == 4 or c == 3 and n == 2):
            record[5] = 2
        order = order[now + 1:] + order[:now + 1]
    going = [task for task in order if records[task][5] == 1]
    if going:
        return records, going[0], told, False
    return records, now, told, True


def records_of(hows, given=()):
    """Records of tasks, each with words of its own, the places of its given words as handed in."""
    records = []
    for task, how in enumerate(hows):
        left = given[task] if task < len(given) else (2000 + task, 2000 + task)
        records.append([10 + task, 20 + task, 30 + task, 1000 + 50 * task, 40 + task, how, left[0], left[1], task] +
                       [7000 + 16 * task + k for k in range(7)])
    return records


class KernelCase(unittest.TestCase):
    def step(self, records, now, saved, memory):
        before = copy.deepcopy((records, now, saved, memory))
        answer = kernel_step(records, now, saved, memory)
        self.assertEqual((records, now, saved, memory), before)
        self.assertEqual([type(part) for part in answer], [list, int, list, bool])
        self.assertEqual(flags_in(answer[:3]), [])
        self.assertEqual(answer, step_by_words(records, now, saved, memory))
        found = lists_in(answer) + lists_in(records)
        self.assertEqual(len({id(one) for one in found}), len(found))
        return answer

    def laid(self, module, records, now, memory):
        words = dict(enumerate(linked([module])[0]))
        table = module[3]["table"]
        # Words behind the kernel that would be tasks that are going, were the table longer.
        words.update({place: 1 for place in range(len(words), 1000)})
        words.update(memory)
        for task, record in enumerate(records):
            for place, word in enumerate(record):
                words[table + 16 * task + place] = word
        words[module[3]["now"]] = table + 16 * now
        return words

    def rows(self, records, now, saved, memory, quota, state):
        """The kernel's rows from a state come to what the plain meaning tells."""
        wanted, task, told, halted = self.step(records, now, saved, memory)
        module = assembled(kernel_text(len(records), quota))
        table, length = module[3]["table"], len(module[0])
        words = self.laid(module, records, now, memory)
        trace = run(state, words, 401)[3]
        backs = [place for place, entry in enumerate(trace) if entry[0][5] == 1]
        beats = backs[0] if backs else len(trace)
        self.assertLessEqual(beats, 400)
        after, left, said, _ = run(state, words, beats)
        self.assertEqual(said, told)
        self.assertEqual([[left.get(table + 16 * k + j, 0) for j in range(16)] for k in range(len(records))], wanted)
        self.assertEqual(after[14], 1 if halted else 0)
        if saved[0] != 0 or not halted:
            self.assertEqual(left.get(module[3]["now"], 0), table + 16 * task)
        if not halted:
            self.assertEqual((after[2], after[0], after[1], after[6], after[7]), tuple(wanted[task][:5]))
            self.assertEqual((after[4], after[5], after[8]), (0, 1, quota))
        self.assertEqual({place: word for place, word in left.items() if place >= length},
                         {place: word for place, word in words.items() if word and place >= length})
        return beats

    def both(self, records, now, saved, memory, quota=7, source=None):
        source = source or random.Random(1)
        c, sp, sa, sx, n = saved
        state = state_with(a=source.randrange(65536), x=source.randrange(65536), i=source.randrange(65536),
                           b=source.randrange(4096), l=source.randrange(4096), t=source.randrange(4096), sa=sa, sx=sx,
                           sp=sp, c=c, n=n)
        self.rows(records, now, saved, memory, quota, state)
        return kernel_step(records, now, saved, memory)


class TextTest(unittest.TestCase):
    def test_its_words_and_names(self):
        for tasks in range(1, 9):
            for quota in [1, 2, 4095]:
                text = kernel_text(tasks, quota)
                self.assertIs(type(text), str)
                self.assertEqual(text, kernel_text(tasks, quota))
                words, own, needed, given, places = assembled(text)
                self.assertEqual(needed, [])
                self.assertEqual(sorted(given), ["now", "table"])
                self.assertLessEqual(len(words), 300)
                table = given["table"]
                self.assertGreaterEqual(len(words), table + 16 * tasks)
                self.assertEqual(words[table:table + 16 * tasks], [0] * (16 * tasks))
                self.assertFalse(table <= given["now"] < table + 16 * tasks)

    def test_what_lies_beyond_is_not_refused(self):
        self.assertGreater(len(assembled(kernel_text(9, 4096))[0]), 144)


class StepTest(KernelCase):
    def test_the_bell(self):
        answer = self.both(records_of([1, 1, 1]), 0, (4, 5, 600, 700, 0), {})
        self.assertEqual(answer[0][0][:9], [5, 600, 700, 1000, 40, 1, 2000, 2000, 0])
        self.assertEqual(answer[1:], (1, [], False))

    def test_what_is_saved(self):
        for c, n in CAUSES + CALLS:
            for saved in [(0, 0, 0), (4095, 65535, 65535), (1, 32768, 4096)]:
                record = self.both(records_of([1, 1]), 1, (c,) + saved + (n,), {})[0][1]
                self.assertEqual((record[0], record[2]), (saved[0], saved[2]))
                self.assertEqual(record[1], 65535 if (c, n) == (3, 3) else saved[1])

    def test_each_cause(self):
        for c, how in [(1, 2), (2, 2), (4, 1), (5, 2), (6, 2), (7, 2)]:
            for n in [0, 1, 3, 4]:
                answer = self.both(records_of([1, 1]), 0, (c, 5, 6, 7, n), {})
                self.assertEqual((answer[0][0][5], answer[1:]), (how, (1, [], False)))

    def test_each_call(self):
        for n, how in [(0, 0), (1, 1), (2, 1), (3, 1), (4, 2), (5, 2), (16, 2), (17, 2), (19, 2), (4095, 2)]:
            answer = self.both(records_of([1, 1]), 1, (3, 5, 6, 7, n), {})
            self.assertEqual((answer[0][1][5], answer[1]), (how, 0))
            self.assertEqual(answer[2], [1, 6] if n == 1 else [])

    def test_telling(self):
        for word in [0, 1, 4095, 4096, 32768, 65535]:
            for task in range(3):
                self.assertEqual(self.both(records_of([1, 1, 1]), task, (3, 5, word, 7, 1), {})[2], [task, word])

    def test_asking(self):
        memory = {3000: 77, 3001: 0, 3002: 65535, 4094: 9}
        for begin, behind, word in [(3000, 3003, 77), (3001, 3003, 0), (3002, 3003, 65535), (4094, 4095, 9),
                                    (3500, 3501, 0)]:
            record = self.both(records_of([1, 1], [(begin, behind)]), 0, (3, 5, 6, 7, 3), memory)[0][0]
            self.assertEqual(record[:9], [5, word, 7, 1000, 40, 1, begin + 1, behind, 0])
        for place in [3000, 3003, 4095, 0]:
            record = self.both(records_of([1, 1], [(place, place)]), 0, (3, 5, 6, 7, 3), memory)[0][0]
            self.assertEqual(record[:9], [5, 65535, 7, 1000, 40, 1, place, place, 0])

    def test_asking_until_none_is_left(self):
        memory = {3000: 4, 3001: 5}
        records = records_of([1], [(3000, 3002)])
        words = []
        for _ in range(4):
            records = self.both(records, 0, (3, 5, 6, 7, 3), memory)[0]
            words.append(records[0][1])
        self.assertEqual(words, [4, 5, 65535, 65535])

    def test_the_next_task(self):
        for tasks in range(1, 9):
            for now in range(tasks):
                for saved, stays in [((4, 5, 6, 7, 0), True), ((3, 5, 6, 7, 0), False), ((1, 5, 6, 7, 0), False)]:
                    answer = self.both(records_of([1] * tasks), now, saved, {})
                    self.assertEqual(answer[3], tasks == 1 and not stays)
                    self.assertEqual(answer[1], (now + 1) % tasks)

    def test_tasks_passed_over(self):
        for hows, now, following in [([1, 0, 2, 1], 0, 3), ([1, 0, 2, 1], 3, 0), ([0, 1, 2, 0], 1, 1),
                                     ([2, 2, 1, 1], 3, 2), ([1, 2, 2, 2, 0, 0, 0, 1], 0, 7),
                                     ([1, 2, 2, 2, 0, 0, 0, 1], 7, 0)]:
            answer = self.both(records_of(hows), now, (4, 5, 6, 7, 0), {})
            self.assertEqual(answer[1:], (following, [], False))
            self.assertEqual([record[5] for record in answer[0]], hows)

    def test_the_last_task_that_is_going(self):
        for tasks in [1, 2, 5, 8]:
            for now in range(tasks):
                hows = [[0, 2][task % 2] for task in range(tasks)]
                hows[now] = 1
                for saved in [(3, 5, 6, 7, 0), (3, 5, 6, 7, 4), (1, 5, 6, 7, 0), (2, 5, 6, 7, 0)]:
                    answer = self.both(records_of(hows), now, saved, {})
                    self.assertEqual(answer[1:], (now, [], True))
                for saved in [(4, 5, 6, 7, 0), (3, 5, 6, 7, 1), (3, 5, 6, 7, 2), (3, 5, 6, 7, 3)]:
                    answer = self.both(records_of(hows), now, saved, {})
                    self.assertEqual((answer[1], answer[3]), (now, False))

    def test_at_first(self):
        for hows, task in [([1], 0), ([1, 1], 0), ([0, 1], 1), ([2, 0, 1, 1], 2), ([2] * 7 + [1], 7), ([1] * 8, 0)]:
            for now in range(len(hows)):
                records = records_of(hows)
                answer = self.step(records, now, (0, 0, 0, 0, 0), {})
                self.assertEqual(answer, (records, task, [], False))
                self.rows(records, now, (0, 0, 0, 0, 0), {}, 9, first_state())
            answer = self.step(records_of(hows), 0, (0, 5, 6, 7, 3), {})
            self.assertEqual(answer, (records_of(hows), task, [], False))

    def test_the_quota(self):
        for quota in [1, 2, 100, 4094, 4095]:
            self.both(records_of([1, 1]), 0, (4, 5, 6, 7, 0), {}, quota)
            self.rows(records_of([1, 1]), 0, (0, 0, 0, 0, 0), {}, quota, first_state())

    def test_drawn_traps(self):
        source = random.Random(87)
        for _ in range(500):
            tasks = source.randrange(1, 9)
            hows = [source.choice([0, 1, 1, 2]) for _ in range(tasks)]
            now = source.randrange(tasks)
            hows[now] = 1
            begins = [source.randrange(2000, 4000) for _ in range(tasks)]
            given = [(begin, begin + source.randrange(3)) for begin in begins]
            records = records_of(hows, given)
            for record in records:
                record[:5] = [source.randrange(4096), source.randrange(65536), source.randrange(65536),
                              source.randrange(4096), source.randrange(4096)]
            memory = {place: source.randrange(65536) for place in range(2000, 4005)}
            c, n = source.choice(CAUSES + CALLS * 2)
            saved = (c, source.randrange(4096), source.randrange(65536), source.randrange(65536), n)
            self.both(records, now, saved, memory, source.randrange(1, 4096), source)

    def test_the_longest_way(self):
        beats = []
        for tasks in [7, 8]:
            for now in range(tasks):
                for hows in [[1 if task == now else 0 for task in range(tasks)],
                             [1 if task in [now, now - 1] else 2 for task in range(tasks)]]:
                    for c, n in CAUSES + CALLS:
                        for given in [(2000, 2000), (2000, 2001)]:
                            records = records_of(hows, [given] * tasks)
                            state = state_with(c=c, n=n, sp=5, sa=6, sx=7)
                            beats.append(self.rows(records, now, (c, 5, 6, 7, n), {2000: 8}, 3, state))
        self.assertLessEqual(max(beats), 400)

    def test_what_is_told_is_new(self):
        record = records_of([1])[0]
        answer = kernel_step([record, record], 0, (4, 5, 6, 7, 0), {})
        self.assertIsNot(answer[0][0], answer[0][1])
        self.assertEqual((answer[0][0][0], answer[0][1][0], record[0]), (5, 10, 10))
        answer[0][1].clear()
        self.assertEqual(record, records_of([1])[0])


if __name__ == "__main__":
    unittest.main()
