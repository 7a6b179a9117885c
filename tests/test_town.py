import copy
import random
import unittest

from gatetown.codes import word_of
from gatetown.errors import TooLong
from gatetown.kernel import kernel_text
from gatetown.linker import linked
from gatetown.machine import asked, beat_of, first_state
from gatetown.making import image_of
from gatetown.processor import processor
from gatetown.rows import assembled
from gatetown.running import as_gates, lone, run
from gatetown.town import town, town_run
from drawn import drawn_given, drawn_tree, flags_in, lists_in, tree_with

NET = processor()


def rows_of(text):
    return [word_of(row.split()[0], int(row.split()[1])) for row in text.split(", ")]


ENDS = rows_of("call 0")
TELLS = rows_of("set 7, call 1, set 4095, call 1, call 0")
ECHO = rows_of("call 3, call 1, add 5, zero 7, goto 0, set 1, call 0, call 0")
FAULTS = rows_of("set 3, call 1, load 9")
LOOPS = rows_of("set 1, call 1, goto 0")
BUSY = rows_of("add 2, goto 0, set 1")
WAYS = rows_of("call 2, goto 0")


def kernel_words(tasks, quota):
    module = assembled(kernel_text(tasks, quota))
    return linked([module])[0], module[3]["table"], module[3]["now"]


def record_in(memory, table, task):
    return [memory.get(table + 16 * task + place, 0) for place in range(16)]


def goings(trace):
    """The stretches of a trace in a task's mode, each a list of its entries."""
    found = []
    for place, (state, word) in enumerate(trace):
        if state[5] == 1:
            if place == 0 or trace[place - 1][0][5] == 0:
                found.append([])
            found[-1].append((state, word))
    return found


class TownTest(unittest.TestCase):
    def ask(self, images, given, quota):
        before = copy.deepcopy((images, given))
        answer = town(images, given, quota)
        self.assertEqual((images, given), before)
        self.assertEqual([type(part) for part in answer], [dict, list])
        self.assertEqual(flags_in(answer), [])
        memory, stretches = answer
        words, table, _ = kernel_words(len(images), quota)
        place = len(words)
        papers = []
        for some in given:
            self.assertEqual([memory.get(place + k, 0) for k in range(len(some))], some)
            papers.append((place, place + len(some)))
            place += len(some)
        for image, stretch in zip(images, stretches):
            self.assertEqual(stretch, (place, len(image)))
            self.assertEqual([memory.get(place + k, 0) for k in range(len(image))], image)
            place += len(image)
        self.assertEqual(len(stretches), len(images))
        self.assertTrue(all(0 <= key < place for key in memory))
        for task, stretch in enumerate(stretches):
            self.assertEqual(record_in(memory, table, task),
                             [0, 0, 0, stretch[0], stretch[1], 1, papers[task][0], papers[task][1], task] + [0] * 7)
        for key in list(range(table)) + list(range(table + 16 * len(images), len(words))):
            self.assertEqual(memory.get(key, 0), words[key])
        return answer

    def test_one_to_eight_images(self):
        some = [TELLS, [], ECHO, FAULTS, [0, 0, 5], LOOPS, [], ENDS]
        given = [[], [5], [1, 0, 65535], [], [], [0], [7, 8], [9]]
        for tasks in range(1, 9):
            for quota in [1, 50, 4095]:
                self.ask(some[:tasks], given[:tasks], quota)
                self.ask(some[8 - tasks:], [[]] * tasks, quota)
                self.ask([[]] * tasks, [[]] * tasks, quota)

    def test_one_image_for_several_tasks(self):
        given = [4, 5]
        memory, stretches = self.ask([TELLS, TELLS, TELLS], [given, given, given], 5)
        self.assertEqual(len(set(stretches)), 3)

    def test_4095_words_and_one_more(self):
        for tasks in [1, 3, 8]:
            free = 4095 - len(kernel_words(tasks, 9)[0])
            for given in [0, 10]:
                some = [[1] * given] + [[]] * (tasks - 1)
                images = [[2] * 5] * (tasks - 1) + [[3] * (free - given - 5 * (tasks - 1))]
                self.ask(images, some, 9)
                longer = images[:-1] + [images[-1] + [4]]
                before = copy.deepcopy((longer, some))
                for refused in [lambda: town(longer, some, 9), lambda: town_run(longer, some, 9, 5),
                                lambda: town(images, some[:-1] + [some[-1] + [4]], 9)]:
                    with self.assertRaises(TooLong) as caught:
                        refused()
                    self.assertIs(type(caught.exception), TooLong)
                self.assertEqual((longer, some), before)
        with self.assertRaises(TooLong):
            town([[0] * 4095], [[]], 1)

    def test_what_is_told_is_new_each_time(self):
        images, given = [TELLS, ECHO], [[], [3]]
        for ask in [lambda: town(images, given, 5), lambda: town_run(images, given, 5, 300)]:
            one, another = ask(), ask()
            self.assertEqual(one, another)
            found = lists_in(one) + lists_in(another) + lists_in([images, given])
            self.assertEqual(len({id(part) for part in found}), len(found))
            for part in lists_in(one):
                part.clear()
            self.assertEqual(ask(), another)


class RunCase(unittest.TestCase):
    def ask(self, images, given, quota, beats):
        before = copy.deepcopy((images, given))
        told, ends, memory, trace = town_run(images, given, quota, beats)
        self.assertEqual((images, given), before)
        self.assertEqual(flags_in([told, ends, memory, trace]), [])
        state, words, said, whole = run(first_state(), town(images, given, quota)[0], beats)
        self.assertEqual((memory, trace), (words, whole))
        self.assertEqual(told, list(zip(said[::2], said[1::2])))
        table = kernel_words(len(images), quota)[1]
        hows = [record_in(memory, table, task)[5] for task in range(len(images))]
        self.assertEqual(ends, [["ended", "going", "fault"][how] for how in hows])
        return told, ends, memory, trace

    def halted(self, trace):
        """Whether the run of a trace ended by a halt."""
        return bool(trace) and beat_of(trace[-1][0], trace[-1][1])[0][14] == 1


class TownRunTest(RunCase):
    def test_no_beats(self):
        told, ends, memory, trace = self.ask([TELLS, []], [[], [5]], 3, 0)
        self.assertEqual((told, ends, trace), ([], ["going", "going"], []))

    def test_to_the_halt_and_beyond(self):
        told, ends, _, trace = self.ask([TELLS, FAULTS, ENDS, []], [[]] * 4, 100, 5000)
        self.assertEqual(told, [(0, 7), (1, 3), (0, 4095)])
        self.assertEqual(ends, ["ended", "fault", "ended", "fault"])
        self.assertTrue(self.halted(trace))
        for beats in [len(trace), len(trace) + 1, 20000]:
            self.assertEqual(self.ask([TELLS, FAULTS, ENDS, []], [[]] * 4, 100, beats)[3], trace)
        self.assertEqual(len(self.ask([TELLS, FAULTS, ENDS, []], [[]] * 4, 100, len(trace) - 1)[3]), len(trace) - 1)

    def test_around_each_word_told(self):
        images, given = [TELLS, LOOPS], [[], []]
        _, _, _, trace = self.ask(images, given, 5, 700)
        said = 0
        for beats, (state, word) in enumerate(trace, start=1):
            tells = beat_of(state, word)[2] is not None
            said += tells
            if tells:
                for count in [beats - 1, beats, beats + 1]:
                    done = said - (count < beats)
                    self.assertEqual(len(self.ask(images, given, 5, count)[0]), done // 2)
        self.assertGreater(said, 8)

    def test_words_given(self):
        given = [[3, 65534, 0, 9], [], [65535]]
        told, ends, _, _ = self.ask([ECHO] * 3, given, 4, 6000)
        self.assertEqual(ends, ["ended"] * 3)
        for task, words in enumerate([[3, 65534, 0, 9, 65535], [65535], [65535]]):
            self.assertEqual([word for one, word in told if one == task], words)

    def test_every_count_of_few_beats(self):
        for beats in range(0, 400, 7):
            self.ask([TELLS, ECHO, FAULTS], [[], [5], []], 2, beats)

    def test_each_going_has_as_many_rows_as_the_quota_or_a_trap_ahead(self):
        for quota in [1, 2, 3, 7, 50, 4095]:
            trace = self.ask([LOOPS, BUSY, WAYS, ECHO, FAULTS], [[], [], [], [1, 2], []], quota, 4000)[3]
            for going in goings(trace)[:-1]:
                self.assertEqual(going[0][0][8], quota)
                behind = beat_of(going[-1][0], going[-1][1])[0]
                done = sum(state[4] for state, _ in going)
                self.assertEqual(behind[5], 0)
                if behind[12] == 4:
                    self.assertEqual((done, len(going)), (quota, 2 * quota))
                else:
                    # The row that trapped is not done.
                    self.assertLessEqual(done - going[-1][0][4], quota - 1)

    def test_tasks_take_turns(self):
        images = [BUSY, WAYS, LOOPS, BUSY]
        trace = self.ask(images, [[]] * 4, 3, 6000)[3]
        stretches = town(images, [[]] * 4, 3)[1]
        turns = [[begin for begin, _ in stretches].index(going[0][0][6]) for going in goings(trace)]
        self.assertEqual(turns[:12], [0, 1, 2, 3] * 3)
        self.assertEqual(turns, [place % 4 for place in range(len(turns))])

    def test_ended_and_faulty_tasks_are_passed_over(self):
        images = [ENDS, BUSY, [], WAYS, FAULTS, LOOPS]
        trace = self.ask(images, [[]] * 6, 4, 9000)[3]
        stretches = town(images, [[]] * 6, 4)[1]
        turns = [[place for place, _ in enumerate(stretches) if stretches[place] == (going[0][0][6], going[0][0][7])][0]
                 for going in goings(trace)]
        self.assertEqual(turns[:11], [0, 1, 2, 3, 4, 5, 1, 3, 4, 5, 1])
        self.assertEqual(turns[12:18], [5, 1, 3, 5, 1, 3])

    def test_a_task_alone(self):
        told, ends, _, trace = self.ask([LOOPS], [[]], 1, 3000)
        self.assertEqual((set(told), ends), ({(0, 1)}, ["going"]))
        self.assertEqual(self.ask([FAULTS], [[]], 4095, 3000)[:2], ([(0, 3)], ["fault"]))


class TaskTest(RunCase):
    """Point [24]."""

    def drawn_image(self, source):
        if source.randrange(4) == 0:
            return image_of(drawn_tree(source))[0]
        size = source.randrange(0, 20)
        numbers = [source.randrange(5), source.randrange(max(size, 1)), source.randrange(24), source.randrange(4096)]
        ops = list(range(13)) + [13] * 4 + [source.choice([14, 15])]
        return [source.choice(ops) * 4096 +
                source.choice([source.randrange(4), source.choice(numbers), source.randrange(max(size, 1))])
                for _ in range(size)]

    def drawn_town(self, source):
        tasks = source.randrange(1, 9)
        images = [self.drawn_image(source) for _ in range(tasks)]
        given = [drawn_given(source) for _ in range(tasks)]
        while len(images) > 1 and sum(len(image) for image in images) > 3500:
            images.pop()
            given.pop()
        return images, given, source.choice([1, 2, 5, 20, 300, 4095]), source.choice([100, 700, 2500, 5000])

    def told_by(self, told, task):
        return [word for one, word in told if one == task]

    def compare(self, images, given, told, ends, trace, beats):
        for task, image in enumerate(images):
            alone = lone(image, given[task], beats)
            words = self.told_by(told, task)
            self.assertEqual(alone[0][:len(words)], words)
            if self.halted(trace):
                self.assertEqual((words, ends[task]), (alone[0], alone[1]))

    def look_at_writes(self, trace, stretches):
        within = {begin + k: (begin, length) for begin, length in stretches for k in range(length)}
        for state, word in trace:
            after, write, tell = beat_of(state, word)
            place = asked(state)
            if state[5] == 0:
                if write is not None:
                    self.assertNotIn(place, within)
                continue
            self.assertIn((state[6], state[7]), stretches)
            own = within.get(place) == (state[6], state[7])
            self.assertIsNone(tell)
            if not own:
                self.assertIsNone(write)
                for other in [0, 65535, word ^ 1]:
                    self.assertEqual(beat_of(state, other), (after, write, tell))

    def test_drawn_towns(self):
        source = random.Random(91)
        halts = 0
        ends_seen = {}
        for _ in range(120):
            images, given, quota, beats = self.drawn_town(source)
            told, ends, _, trace = self.ask(images, given, quota, beats)
            self.compare(images, given, told, ends, trace, beats)
            self.look_at_writes(trace, town(images, given, quota)[1])
            halts += self.halted(trace)
            for end in ends:
                ends_seen[end] = ends_seen.get(end, 0) + 1
        self.assertGreater(halts, 15)
        self.assertGreater(min(ends_seen.values()), 30)

    def test_rows_that_reach_each_other(self):
        # A task that writes over all that it can reach, and one that goes behind its end.
        writes = rows_of("set 0, move 0, set 9, into 0, move 1, add 8, goto 1, set 0, set 1")
        leaves = rows_of("set 1, call 1, goto 4095")
        reads = rows_of("load 4095, call 1")
        images = [writes, TELLS, leaves, reads, TELLS]
        for quota in [1, 6, 100]:
            told, ends, _, trace = self.ask(images, [[]] * 5, quota, 8000)
            self.assertEqual(ends[1:], ["ended", "fault", "fault", "ended"])
            self.assertEqual([self.told_by(told, task) for task in [1, 2, 3, 4]], [[7, 4095], [1], [], [7, 4095]])
            self.compare(images, [[]] * 5, told, ends, trace, 8000)
            self.look_at_writes(trace, town(images, [[]] * 5, quota)[1])

    def test_barred_rows_are_faults(self):
        for row in ["own 5", "own 6", "own 13", "own 11", "back 0", "call 4", "call 4095", "store 3", "into 3",
                    "goto 3"]:
            images = [rows_of("set 4, call 1, " + row), TELLS]
            told, ends, _, trace = self.ask(images, [[], []], 5, 4000)
            self.assertEqual((ends, self.told_by(told, 0), self.told_by(told, 1)), (["fault", "ended"], [4], [7, 4095]))

    def test_the_same_task_among_others_and_by_another_quota(self):
        image = image_of(tree_with("ask a", "while (b<a)", "xs[(b&3)] = (b+b)", "tell xs[(b&3)]", "b = (b+1)",
                                   "give way", "end", "tell xs[4]"))[0]
        wanted = lone(image, [4], 5000)[:2]
        self.assertEqual(wanted, ([0, 2, 4, 6], "fault"))
        for others in [[], [ENDS], [ENDS, []], [FAULTS, TELLS, TELLS]]:
            for quota in [1, 3, 40, 4095]:
                for task in range(len(others) + 1):
                    images = others[:task] + [image] + others[task:]
                    given = [[9]] * task + [[4]] + [[8, 7]] * (len(others) - task)
                    told, ends, _, trace = self.ask(images, given, quota, 60000)
                    self.assertTrue(self.halted(trace))
                    self.assertEqual((self.told_by(told, task), ends[task]), wanted)

    def test_the_trace_is_a_run_of_the_gates(self):
        source = random.Random(92)
        for _ in range(4):
            images, given, quota, _ = self.drawn_town(source)
            trace = self.ask(images, given, quota, 700)[3]
            self.assertTrue(as_gates(NET, trace))
            place = source.randrange(1, len(trace))
            state = list(trace[place][0])
            state[0] ^= 1
            self.assertFalse(as_gates(NET, trace[:place] + [(tuple(state), trace[place][1])] + trace[place + 1:]))


if __name__ == "__main__":
    unittest.main()
