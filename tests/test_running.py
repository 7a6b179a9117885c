import copy
import random
import unittest
from unittest import mock

from gatetown import running
from gatetown.codes import word_of
from gatetown.machine import first_state
from gatetown.processor import processor
from gatetown.running import as_gates, lone, run
from plain import STATE, beat_by_words, drawn_state, place_by_words, state_with

NET = processor()


def image_of(rows):
    return [word_of(row.split()[0], int(row.split()[1])) for row in rows.split(", ")]


def memory_of(words):
    return {place: word for place, word in enumerate(words)}


def run_by_words(state, memory, beats):
    """Point [10], word by word."""
    memory = dict(memory)
    told = []
    trace = []
    for _ in range(beats):
        if state[14] == 1:
            break
        place = place_by_words(state)[1]
        word = memory.get(place, 0)
        trace.append((state, word))
        state, write, tell = beat_by_words(state, word)
        if write is not None:
            memory[place] = write
        if tell is not None:
            told.append(tell)
    return state, {place: word for place, word in memory.items() if word}, told, trace


def lone_by_words(image, given, beats):
    """Point [11], word by word, a beat at a time."""
    state = state_with(m=1, l=len(image))
    memory = {place: word for place, word in enumerate(image)}
    given = list(given)
    told = []
    traces = []
    anew = True
    end = "going"
    for _ in range(beats):
        place = place_by_words(state)[1]
        word = memory.get(place, 0)
        if anew:
            traces.append([])
        anew = False
        traces[-1].append((state, word))
        state, write, _ = beat_by_words(state, word)
        if write is not None:
            memory[place] = write
        s = dict(zip(STATE, state))
        if s["m"] == 1:
            continue
        if s["c"] != 3 or s["n"] not in [0, 1, 2, 3]:
            end = "fault"
            break
        if s["n"] == 0:
            end = "ended"
            break
        if s["n"] == 1:
            told.append(s["a"])
        if s["n"] == 3:
            s["a"] = given.pop(0) if given else 65535
        s["m"], s["p"] = 1, s["sp"]
        state = tuple(s[name] for name in STATE)
        anew = True
    return told, end, {place: word for place, word in memory.items() if word}, traces


# Tells 3, 2, 1 in the kernel's mode and halts.
COUNT_DOWN = image_of("set 3, own 6, take 6, zero 5, goto 1, own 5, set 1")
# Asks for words and tells each one more than once, until a 0 comes.
ECHO = image_of("call 3, zero 5, call 1, call 1, goto 0, call 0")


class RunTest(unittest.TestCase):
    def test_no_beats(self):
        state = state_with(a=5, p=7)
        self.assertEqual(run(state, {3: 4, 5: 0}, 0), (state, {3: 4}, [], []))
        self.assertEqual(run(first_state(), {}, 0), (first_state(), {}, [], []))

    def test_one_beat(self):
        word = word_of("set", 9)
        self.assertEqual(run(first_state(), {0: word}, 1),
                         (state_with(i=word, f=1), {0: word}, [], [(first_state(), word)]))

    def test_the_trace_entry_by_entry(self):
        rows = image_of("set 9, store 20, own 6, own 5")
        state, memory, told, trace = run(first_state(), memory_of(rows), 100)
        i = [word_of("set", 9), word_of("store", 20), word_of("own", 6), word_of("own", 5)]
        self.assertEqual(trace, [
            (first_state(), i[0]),
            (state_with(i=i[0], f=1), 0),
            (state_with(a=9, p=1, i=i[0]), i[1]),
            (state_with(a=9, p=1, i=i[1], f=1), 0),
            (state_with(a=9, p=2, i=i[1]), i[2]),
            (state_with(a=9, p=2, i=i[2], f=1), 0),
            (state_with(a=9, p=3, i=i[2]), i[3]),
            (state_with(a=9, p=3, i=i[3], f=1), 0),
        ])
        self.assertEqual(state, state_with(a=9, p=4, i=i[3], h=1))
        self.assertEqual(memory, {0: i[0], 1: i[1], 2: i[2], 3: i[3], 20: 9})
        self.assertEqual(told, [9])

    def test_a_halted_state_does_no_beat(self):
        state = state_with(h=1, p=3)
        self.assertEqual(run(state, {3: 77, 4: 0}, 50), (state, {3: 77}, [], []))

    def test_it_ends_where_a_state_is_halted(self):
        state, memory, told, trace = run(first_state(), memory_of(COUNT_DOWN), 20000)
        self.assertEqual(told, [3, 2, 1])
        self.assertEqual(state[14], 1)
        self.assertTrue(all(entry[0][14] == 0 for entry in trace))
        self.assertEqual(run(first_state(), memory_of(COUNT_DOWN), len(trace)), (state, memory, told, trace))
        short = run(first_state(), memory_of(COUNT_DOWN), len(trace) - 1)
        self.assertEqual(short[3], trace[:-1])
        self.assertEqual(short[0], trace[-1][0])

    def test_so_many_beats(self):
        for beats in [0, 1, 2, 63, 64, 65, 1000]:
            state, memory, told, trace = run(first_state(), {0: word_of("goto", 0)}, beats)
            self.assertEqual(len(trace), beats)
            self.assertEqual(state[4], beats % 2)

    def test_20000_beats(self):
        trace = run(first_state(), {0: word_of("goto", 0)}, 20000)[3]
        self.assertEqual(len(trace), 20000)

    def test_what_is_written_is_read_again(self):
        rows = image_of("set 4095, store 100, set 0, load 100, own 6, set 7, move 0, set 55, into 93, load 100, own 6")
        told = run(first_state(), memory_of(rows), 22)[2]
        self.assertEqual(told, [4095, 55])

    def test_a_written_row_is_done(self):
        rows = image_of("load 6, store 3, set 5, set 1, own 6, own 5, set 42")
        self.assertEqual(run(first_state(), memory_of(rows), 100)[2], [42])
        rows[1] = word_of("goto", 2)
        self.assertEqual(run(first_state(), memory_of(rows), 100)[2], [1])

    def test_words_that_are_0_are_not_told(self):
        rows = image_of("load 50, own 6, set 0, store 50, load 50, own 6, own 5")
        handed = {**memory_of(rows), 50: 12, 60: 0, 61: 5}
        before = dict(handed)
        state, memory, told, trace = run(first_state(), handed, 100)
        self.assertEqual(told, [12, 0])
        self.assertEqual(memory, {place: word for place, word in before.items() if word and place != 50})
        self.assertEqual(handed, before)

    def test_a_word_0_is_read_as_one_that_lacks(self):
        with_noughts = run(first_state(), {place: 0 for place in range(20)}, 30)
        self.assertEqual(with_noughts, run(first_state(), {}, 30))
        self.assertEqual(with_noughts[1], {})
        self.assertEqual([word for _, word in with_noughts[3]], [0] * 30)

    def test_against_the_words_of_the_document(self):
        source = random.Random(21)
        for k in range(150):
            memory = {place: source.choice([0, source.randrange(65536), source.randrange(16) * 4096 +
                                            source.randrange(24)]) for place in range(24)}
            state = source.choice([first_state(), drawn_state(source), state_with(m=1, l=20, t=5)])
            beats = source.choice([0, 1, 7, 40, 200])
            before = dict(memory)
            told = run(state, memory, beats)
            self.assertEqual(told, run_by_words(state, memory, beats))
            self.assertEqual(memory, before)
            self.assertTrue(as_gates(NET, told[3]))

    def test_a_run_may_go_on_with_what_was_told(self):
        source = random.Random(22)
        for _ in range(20):
            memory = {place: source.randrange(16) * 4096 + source.randrange(30) for place in range(30)}
            whole = run(first_state(), memory, 90)
            one = run(first_state(), memory, 40)
            another = run(one[0], one[1], 50)
            self.assertEqual((another[0], another[1], one[2] + another[2], one[3] + another[3]), whole)

    def test_the_kinds_of_what_is_told(self):
        memory = {0: word_of("own", 6), 1: 5}
        told = run(first_state(), memory, 6)
        self.assertEqual([type(part) for part in told], [tuple, dict, list, list])
        self.assertEqual({type(entry) for entry in told[3]}, {tuple})
        again = run(first_state(), memory, 6)
        self.assertEqual(told, again)
        for one, another in zip(told[1:], again[1:]):
            self.assertIsNot(one, another)
        told[1].clear()
        told[2].append(7)
        told[3].clear()
        self.assertEqual(run(first_state(), memory, 6), again)
        self.assertEqual(memory, {0: word_of("own", 6), 1: 5})
        self.assertIsNot(run(first_state(), memory, 0)[1], memory)


def long_trace(entries):
    rows = image_of("set 1, add 6, store 6, load 6, goto 1, set 0, set 7")
    return run(first_state(), memory_of(rows), entries)[3]


class GatesTest(unittest.TestCase):
    def test_short_traces(self):
        self.assertIs(as_gates(NET, []), True)
        self.assertIs(as_gates(NET, [(state_with(a=5, f=1), 7)]), True)
        trace = long_trace(2)
        self.assertIs(as_gates(NET, trace), True)
        self.assertIs(as_gates(NET, [trace[0], (state_with(a=1), 0)]), False)
        self.assertIs(as_gates(NET, [trace[0], trace[0]]), False)

    def test_long_traces(self):
        for entries in [63, 64, 65, 66, 127, 128, 129, 130, 200, 400]:
            trace = long_trace(entries)
            self.assertEqual(len(trace), entries)
            before = list(trace)
            self.assertIs(as_gates(NET, trace), True)
            self.assertEqual(trace, before)

    def test_a_state_exchanged(self):
        for entries in [66, 130, 200]:
            trace = long_trace(entries)
            for place in [0, 1, 2, 62, 63, 64, 65, 127, 128, 129, entries - 2, entries - 1]:
                if place >= entries:
                    continue
                for part in [0, 2, 9, 13]:
                    state = list(trace[place][0])
                    state[part] ^= 1
                    other = trace[:place] + [(tuple(state), trace[place][1])] + trace[place + 1:]
                    # These parts lead on to the next state, so even the first entry is found.
                    self.assertIs(as_gates(NET, other), False, (entries, place, part))

    def test_a_word_exchanged(self):
        trace = long_trace(200)
        for place in [0, 2, 62, 64, 66, 126, 128, 130, 196, 198]:
            self.assertEqual(trace[place][0][4], 0)
            other = trace[:place] + [(trace[place][0], trace[place][1] ^ 1)] + trace[place + 1:]
            self.assertIs(as_gates(NET, other), False, place)

    def test_the_last_word_leads_nowhere(self):
        for entries in [1, 64, 65, 66]:
            trace = long_trace(entries)
            other = trace[:-1] + [(trace[-1][0], trace[-1][1] ^ 1)]
            self.assertIs(as_gates(NET, other), True)

    def test_entries_left_out_or_turned(self):
        trace = long_trace(150)
        for place in [1, 63, 64, 65, 128]:
            self.assertIs(as_gates(NET, trace[:place] + trace[place + 1:]), False)
            self.assertIs(as_gates(NET, trace[:place] + [trace[place]] + trace[place:]), False)
        self.assertIs(as_gates(NET, trace[::-1]), False)

    def test_another_net(self):
        nexts = list(NET[3])
        nexts[0], nexts[1] = nexts[1], nexts[0]
        other = (NET[0], NET[1], NET[2], nexts, NET[4])
        trace = long_trace(100)
        self.assertIs(as_gates(other, trace), False)
        self.assertIs(as_gates(other, trace[:1]), True)
        state = state_with(p=3)
        leads = [(state, 8), (state_with(p=3, i=8, f=1), 1)]
        self.assertIs(as_gates(other, leads), True)
        outs = list(reversed(NET[4]))
        self.assertIs(as_gates((NET[0], NET[1], NET[2], NET[3], outs), trace), True)

    def test_at_most_64_at_a_time(self):
        asked = []

        def counted(net, states, words):
            asked.append(len(states))
            return beats(net, states, words)

        beats = running.net_beats
        with mock.patch.object(running, "net_beats", counted):
            self.assertTrue(as_gates(NET, long_trace(200)))
        self.assertEqual(sum(asked), 199)
        self.assertLessEqual(max(asked), 64)

    def test_what_is_handed_in_stays(self):
        trace = long_trace(70)
        before = copy.deepcopy((NET, trace))
        as_gates(NET, trace)
        self.assertEqual((NET, trace), before)


class LoneTest(unittest.TestCase):
    def ask(self, image, given, beats):
        before = (list(image), list(given))
        told = lone(image, given, beats)
        self.assertEqual((image, given), before)
        self.assertEqual(told, lone_by_words(image, given, beats))
        self.assertEqual([type(part) for part in told], [list, str, dict, list])
        self.assertNotIn([], told[3])
        self.assertLessEqual(sum(len(trace) for trace in told[3]), max(beats, 0))
        for trace in told[3]:
            self.assertIs(type(trace), list)
            self.assertTrue(as_gates(NET, trace))
            self.assertTrue(all((state[5], state[6], state[8], state[14]) == (1, 0, 0, 0) for state, _ in trace))
        return told

    def test_the_empty_image(self):
        self.assertEqual(self.ask([], [], 10), ([], "fault", {}, [[(state_with(m=1), 0)]]))
        self.assertEqual(self.ask([], [1], 1)[1], "fault")
        self.assertEqual(self.ask([], [], 0), ([], "going", {}, []))

    def test_no_beats(self):
        self.assertEqual(self.ask(ECHO, [5], 0),
                         ([], "going", {k: word for k, word in enumerate(ECHO)}, []))

    def test_call_0_ends(self):
        image = [word_of("call", 0)]
        word = image[0]
        first = state_with(m=1, l=1)
        fetched = state_with(m=1, l=1, f=1, i=word)
        self.assertEqual(self.ask(image, [], 50), ([], "ended", {0: word}, [[(first, word), (fetched, word)]]))
        self.assertEqual(self.ask(image, [], 2)[1], "ended")
        self.assertEqual(self.ask(image, [], 1)[1], "going")

    def test_call_1_tells(self):
        image = image_of("set 7, call 1, set 4095, call 1, call 0")
        told = self.ask(image, [], 50)
        self.assertEqual(told[:2], ([7, 4095], "ended"))
        self.assertEqual([len(trace) for trace in told[3]], [4, 4, 2])

    def test_call_2_does_nothing(self):
        image = image_of("set 7, call 2, call 1, call 0")
        self.assertEqual(self.ask(image, [5], 50)[:2], ([7], "ended"))

    def test_call_3_asks(self):
        self.assertEqual(self.ask(ECHO, [5, 65535, 9, 0, 4], 500)[:2], ([5, 5, 65535, 65535, 9, 9], "ended"))
        image = image_of("set 7, call 3, call 1, call 3, call 1, call 3, call 1, call 0")
        self.assertEqual(self.ask(image, [], 50)[0], [65535, 65535, 65535])
        self.assertEqual(self.ask(image, [0], 50)[0], [0, 65535, 65535])
        self.assertEqual(self.ask(image, [3, 4], 50)[0], [3, 4, 65535])
        self.assertEqual(self.ask(image, [3, 4, 5, 6], 50)[0], [3, 4, 5])

    def test_any_other_call_is_a_fault(self):
        for number in [4, 5, 16, 4094, 4095]:
            image = image_of("set 7, call 1, call {}, call 1".format(number))
            self.assertEqual(self.ask(image, [], 50)[:2], ([7], "fault"))

    def test_other_traps_are_faults(self):
        for row in ["load 9", "store 9", "from 9", "goto 3", "goto 4095", "own 5", "own 6", "back 0", "set 1"]:
            image = image_of("set 3, call 1, " + row)
            self.assertEqual(self.ask(image, [], 50)[:2], ([3], "fault"), row)
        self.assertEqual(self.ask(image_of("own 5"), [], 50)[1], "fault")

    def test_causes_of_faults(self):
        barred = self.ask(image_of("load 1"), [], 50)[3]
        self.assertEqual(len(barred[0]), 2)
        own = self.ask(image_of("own 6"), [], 50)
        self.assertEqual(own[:2], ([], "fault"))

    def test_a_call_in_the_last_beat_is_done(self):
        image = image_of("set 7, call 1, call 0")
        self.assertEqual(self.ask(image, [], 3)[:2], ([], "going"))
        told = self.ask(image, [], 4)
        self.assertEqual(told[:2], ([7], "going"))
        self.assertEqual([len(trace) for trace in told[3]], [4])
        self.assertEqual(self.ask(image, [], 5)[:2], ([7], "going"))
        self.assertEqual(self.ask(image, [], 6)[:2], ([7], "ended"))
        fault = image_of("call 9")
        self.assertEqual([self.ask(fault, [], beats)[1] for beats in [1, 2, 3]], ["going", "fault", "fault"])

    def test_so_many_beats(self):
        told = self.ask(image_of("call 2, goto 0"), [], 301)
        self.assertEqual(told[1], "going")
        self.assertEqual(sum(len(trace) for trace in told[3]), 301)
        told = self.ask([word_of("goto", 0)], [], 1000)
        self.assertEqual((told[1], len(told[3]), len(told[3][0])), ("going", 1, 1000))

    def test_it_goes_on_as_the_trap_left_it(self):
        image = image_of("set 9, move 0, set 7, call 2, store 8, move 1, call 1, load 8, set 0")
        told = self.ask(image, [], 14)
        traces = told[3]
        called = word_of("call", 2)
        self.assertEqual(traces[1][0][0], state_with(a=7, x=9, p=4, i=called, m=1, l=9, sa=7, sx=9, sp=4, c=3, n=2))
        self.assertEqual(told[0], [9])
        self.assertEqual(told[2][8], 7)
        asks = image_of("set 6, call 3, call 0")
        state = self.ask(asks, [44], 50)[3][1][0][0]
        self.assertEqual(state, state_with(a=44, p=2, i=word_of("call", 3), m=1, l=3, sa=6, sp=2, c=3, n=3))

    def test_the_memory_in_the_end(self):
        image = image_of("set 5, store 6, set 0, store 7, load 6, call 0, set 0, set 9")
        memory = self.ask(image, [], 50)[2]
        wanted = {place: word for place, word in enumerate(image) if word}
        wanted[6] = 5
        del wanted[7]
        self.assertEqual(memory, wanted)
        self.assertNotIn(2, memory)

    def test_writes_are_read_behind_calls(self):
        image = image_of("set 5, store 6, call 2, load 6, call 1, call 0, set 0")
        self.assertEqual(self.ask(image, [], 50)[0], [5])

    def test_a_stretch_as_long_as_can_be(self):
        image = [0] * 4094 + [word_of("call", 1)]
        image[0] = word_of("goto", 4093)
        image[4093] = word_of("load", 4094)
        self.assertEqual(self.ask(image, [], 6)[:2], ([word_of("call", 1)], "going"))
        self.assertEqual(self.ask(image, [], 7)[1], "fault")

    def test_against_the_words_of_the_document(self):
        source = random.Random(23)
        ends = {}
        for _ in range(250):
            image = [source.choice([0, 1, 2, 3, 4, 5, 6, 7, 8, 9, 10, 11, 12, 13, 13, 13]) * 4096 +
                     source.choice([source.randrange(5), source.randrange(24)])
                     for _ in range(source.randrange(1, 22))]
            given = [source.randrange(65536) for _ in range(source.randrange(4))]
            told = self.ask(image, given, source.choice([1, 5, 20, 150, 300]))
            ends[told[1]] = ends.get(told[1], 0) + 1
        self.assertEqual(sorted(ends), ["ended", "fault", "going"])

    def test_what_is_told_is_new_each_time(self):
        one = lone(ECHO, [3, 0], 60)
        another = lone(ECHO, [3, 0], 60)
        self.assertEqual(one, another)
        for k in [0, 2, 3]:
            self.assertIsNot(one[k], another[k])
        lists = one[3] + another[3]
        self.assertEqual(len({id(trace) for trace in lists}), len(lists))
        one[0].clear()
        one[2].clear()
        one[3][0].clear()
        self.assertEqual(lone(ECHO, [3, 0], 60), another)

    def test_what_lies_beyond_is_not_refused(self):
        self.assertEqual(lone([0] * 4100, [], 3)[1], "going")
        self.assertEqual(len(run(first_state(), {}, 20001)[3]), 20001)


if __name__ == "__main__":
    unittest.main()
