"""A program's image is walked beside the program's plain meaning."""

from gatetown.machine import CAUSE, CALLED, FETCHED, MODE, NUMBER, P, asked, beat_of
from gatetown.making import image_of
from gatetown.meaning import meant
from gatetown.running import TELL, lone


def numbers_by_place(begins):
    numbers = {}
    for number, place in begins.items():
        numbers[place] = number
    return numbers


def cells_in(memory, variables, cells):
    values = {}
    for kind, name, size in variables:
        words = [memory.get(place, 0) for place in range(cells[name], cells[name] + size)]
        values[name] = words if kind == "list" else words[0]
    return values


def has_told(state):
    return state[MODE] == 0 and state[CAUSE] == CALLED and state[NUMBER] == TELL


class Walk:
    def __init__(self, variables, image, paper, told):
        self.variables = variables
        self.memory = dict(enumerate(image))
        self.numbers = numbers_by_place(paper[0])
        self.cells = paper[1]
        self.told = told
        self.told_so_far = 0
        self.steps = []

    def note_begin(self, state):
        if state[FETCHED] == 0 and state[P] in self.numbers:
            values = cells_in(self.memory, self.variables, self.cells)
            self.steps.append((self.numbers[state[P]], values, self.told[:self.told_so_far]))

    def go_on(self, state, word):
        self.note_begin(state)
        answer = beat_of(state, word)
        if answer[1] is not None:
            self.memory[asked(state)] = answer[1]
        if has_told(answer[0]):
            self.told_so_far = self.told_so_far + 1


def walked(tree, given, beats):
    answer = image_of(tree)
    ran = lone(answer[0], given, beats)
    walk = Walk(tree[0], answer[0], answer[1], ran[0])
    for trace in ran[3]:
        for state, word in trace:
            walk.go_on(state, word)
    # Where the meaning ends behind as many statements as the image came to, there is no step more.
    meaning = meant(tree, given, len(walk.steps))
    if walk.steps != meaning[3]:
        return False
    return ran[1] == "going" or (ran[0], ran[1]) == (meaning[0], meaning[1])
