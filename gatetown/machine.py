"""The plain processor: its states, the place it asks for, and its beats."""

from gatetown.codes import ADD, BACK, BELOW, BOTH, CALL, FROM, GOTO, INTO, LINK, LOAD, MOVE, OWN, SET, STORE, TAKE, ZERO

WORDS = 65536
PLACES = 4096
FIRST_BELOW = 32768

# Where the numbers of a state stand in its tuple.
A = 0
X = 1
P = 2
ROW = 3
FETCHED = 4
MODE = 5
BEGIN = 6
LENGTH = 7
BELL = 8
SAVED_A = 9
SAVED_X = 10
SAVED_P = 11
CAUSE = 12
NUMBER = 13
HALTED = 14

# How many figures each of these numbers has.
WIDTHS = (16, 16, 12, 16, 1, 1, 12, 12, 12, 16, 16, 12, 3, 12, 1)

# The causes of a trap; 0 stands for none.
BARRED = 1
NOT_OWN = 2
CALLED = 3
RUNG = 4

MOVES = 4
OWNS = 16
OWN_HALT = 5
OWN_TELL = 6


def first_state():
    return tuple([0 for width in WIDTHS])


def op_of(state):
    return state[ROW] // PLACES


def number_of(state):
    return state[ROW] % PLACES


def reaching_ops():
    return [LOAD, STORE, ADD, TAKE, BOTH, FROM, INTO]


def parts_read_by_own():
    # Own 0 and the owns behind it tell these to a.
    return [SAVED_A, SAVED_X, SAVED_P, CAUSE, NUMBER]


def parts_set_by_own():
    # As pairs of the own's number and the part that it sets by a.
    return [(8, SAVED_A), (9, SAVED_X), (10, SAVED_P), (11, BEGIN), (12, LENGTH), (13, BELL)]


def place_within(state):
    if state[FETCHED] == 0:
        return state[P]
    if op_of(state) in (FROM, INTO):
        return (state[X] + number_of(state)) % WORDS
    return number_of(state)


def asked(state):
    if state[MODE] == 0:
        return place_within(state) % PLACES
    return (state[BEGIN] + place_within(state)) % PLACES


def is_barred(state):
    return state[MODE] == 1 and place_within(state) >= state[LENGTH]


def exchanged(state, changes):
    parts = list(state)
    for part, value in changes:
        parts[part] = value
    return tuple(parts)


def trapped(state, cause, place):
    return exchanged(state, [(SAVED_A, state[A]), (SAVED_X, state[X]), (SAVED_P, place % PLACES), (CAUSE, cause),
                             (MODE, 0), (P, 0), (FETCHED, 0)])


def fetch(state, word):
    if is_barred(state):
        return trapped(state, BARRED, state[P])
    return exchanged(state, [(ROW, word), (FETCHED, 1)])


def cause_of(state):
    op = op_of(state)
    if op in reaching_ops() and is_barred(state):
        return BARRED
    if op in (OWN, BACK) and state[MODE] == 1:
        return NOT_OWN
    if op == CALL:
        return CALLED
    return 0


def row_trapped(state, cause):
    if cause == CALLED:
        called = exchanged(state, [(NUMBER, number_of(state))])
        return trapped(called, CALLED, state[P] + 1)
    return trapped(state, cause, state[P])


def a_by_exchange(state):
    op = op_of(state)
    number = number_of(state)
    if op == MOVE and number % MOVES == 1:
        return state[X]
    if op == MOVE and number % MOVES == 2:
        return state[A] // 2
    if op == OWN and number % OWNS < len(parts_read_by_own()):
        return state[parts_read_by_own()[number % OWNS]]
    if op == BACK:
        return state[SAVED_A]
    return state[A]


def new_a(state, word):
    op = op_of(state)
    if op == SET:
        return number_of(state)
    if op in (LOAD, FROM):
        return word
    if op == ADD:
        return (state[A] + word) % WORDS
    if op == TAKE:
        return (state[A] - word) % WORDS
    if op == BOTH:
        return state[A] & word
    if op == LINK:
        return (state[P] + 1) % PLACES
    return a_by_exchange(state)


def new_x(state):
    if op_of(state) == MOVE and number_of(state) % MOVES == 0:
        return state[A]
    if op_of(state) == BACK:
        return state[SAVED_X]
    return state[X]


def leaps(state):
    op = op_of(state)
    if op == ZERO:
        return state[A] == 0
    if op == BELOW:
        return state[A] >= FIRST_BELOW
    return op in (GOTO, LINK)


def new_p(state):
    op = op_of(state)
    if leaps(state):
        return number_of(state)
    if op == MOVE and number_of(state) % MOVES == 3:
        return state[A] % PLACES
    if op == BACK:
        return state[SAVED_P]
    return (state[P] + 1) % PLACES


def own_changes(state):
    kind = number_of(state) % OWNS
    if kind == OWN_HALT:
        return [(HALTED, 1)]
    # A part of twelve figures goes round at 4096, one of sixteen has all of a.
    return [(part, state[A] % (1 << WIDTHS[part])) for own, part in parts_set_by_own() if own == kind]


def row_done(state, word):
    changes = [(A, new_a(state, word)), (X, new_x(state)), (P, new_p(state)), (FETCHED, 0)]
    if op_of(state) == OWN:
        changes.extend(own_changes(state))
    if op_of(state) == BACK:
        changes.append((MODE, 1))
    return exchanged(state, changes)


def bell_counted(state):
    if state[BELL] == 0:
        return state
    counted = exchanged(state, [(BELL, state[BELL] - 1)])
    if counted[BELL] == 0:
        return trapped(counted, RUNG, counted[P])
    return counted


def written(state):
    return state[A] if op_of(state) in (STORE, INTO) else None


def told_word(state):
    return state[A] if op_of(state) == OWN and number_of(state) % OWNS == OWN_TELL else None


def beat_of(state, word):
    if state[HALTED] == 1:
        return (state, None, None)
    if state[FETCHED] == 0:
        return (fetch(state, word), None, None)
    cause = cause_of(state)
    if cause != 0:
        return (row_trapped(state, cause), None, None)
    after = row_done(state, word)
    # Back sets the mode behind its row, so the mode ahead of the row is asked.
    if state[MODE] == 1:
        after = bell_counted(after)
    return (after, written(state), told_word(state))
