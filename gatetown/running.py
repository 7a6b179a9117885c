"""Runs of the machine with its memory, the same by gates, and a program's image run by itself."""

from gatetown.machine import A, CALLED, CAUSE, HALTED, LENGTH, MODE, NUMBER, P, SAVED_P, WORDS
from gatetown.machine import asked, beat_of, exchanged, first_state
from gatetown.processor import net_beats

AT_A_TIME = 64
NONE_LEFT = 65535

# The calls that a lone program has; call 2, between these, does nothing, and those above are faults.
END = 0
TELL = 1
ASK = 3


def without_noughts(memory):
    words = {}
    for place, word in memory.items():
        if word != 0:
            words[place] = word
    return words


def beat_in(state, memory, told, trace):
    # The memory and the lists are the run's own and go on with it.
    place = asked(state)
    word = memory.get(place, 0)
    trace.append((state, word))
    answer = beat_of(state, word)
    if answer[1] is not None:
        memory[place] = answer[1]
    if answer[2] is not None:
        told.append(answer[2])
    return answer[0]


def run(state, memory, beats):
    words = dict(memory)
    told = []
    trace = []
    while len(trace) < beats and state[HALTED] == 0:
        state = beat_in(state, words, told, trace)
    return (state, without_noughts(words), told, trace)


def lead_on(net, some):
    # Whether each entry but the last leads to the state of the one behind it.
    befores = some[:-1]
    answers = net_beats(net, [entry[0] for entry in befores], [entry[1] for entry in befores])
    return [answer[1] for answer in answers] == [entry[0] for entry in some[1:]]


def as_gates(net, trace):
    for first in range(0, len(trace) - 1, AT_A_TIME):
        # One entry more than are asked, for the last of them leads to it.
        if not lead_on(net, trace[first:first + AT_A_TIME + 1]):
            return False
    return True


def stretch(state, memory, beats):
    # Up to the next trap, which alone leads out of a task's mode.
    told = []
    trace = []
    while len(trace) < beats and state[MODE] == 1:
        state = beat_in(state, memory, told, trace)
    return (state, trace)


def end_by(state):
    if state[MODE] == 1:
        return "going"
    if state[CAUSE] != CALLED or state[NUMBER] > ASK:
        return "fault"
    if state[NUMBER] == END:
        return "ended"
    return "going"


def behind_call(state, told, left):
    a = state[A]
    if state[NUMBER] == TELL:
        told.append(a)
    if state[NUMBER] == ASK:
        a = left.pop(0) % WORDS if len(left) > 0 else NONE_LEFT
    return exchanged(state, [(A, a), (P, state[SAVED_P]), (MODE, 1)])


def lone(image, given, beats):
    state = exchanged(first_state(), [(MODE, 1), (LENGTH, len(image))])
    memory = dict(enumerate(image))
    left = list(given)
    told = []
    traces = []
    end = "going"
    while beats > 0 and end == "going":
        answer = stretch(state, memory, beats)
        state = answer[0]
        traces.append(answer[1])
        beats = beats - len(answer[1])
        end = end_by(state)
        # A call in the last beat is still done, so this does not ask how many beats are left.
        if end == "going" and state[MODE] == 0:
            state = behind_call(state, told, left)
    return (told, end, without_noughts(memory), traces)
