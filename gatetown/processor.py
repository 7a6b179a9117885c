"""The processor as a net of gates, and the beats of such a net read as states."""

from gatetown.codes import ADD, BACK, BELOW, BOTH, CALL, FROM, GOTO, INTO, LINK, LOAD, MOVE, OWN, SET, STORE, TAKE, ZERO
from gatetown.gates import Maker, beat
from gatetown.machine import A, BARRED, BEGIN, BELL, CALLED, CAUSE, FETCHED, HALTED, LENGTH, MODE, NOT_OWN, NUMBER
from gatetown.machine import OWN_HALT, OWN_TELL, P, ROW, RUNG, SAVED_A, SAVED_P, SAVED_X, WIDTHS, X
from gatetown.machine import parts_read_by_own, parts_set_by_own, reaching_ops
from gatetown.parts import added, all_chosen, is_less, is_none, others_of, picked

WORD_FIGURES = 16
PLACE_FIGURES = 12

# Where the flags stand among the outs; the word that is written stands between them.
WRITE_FLAG = 12
TELL_FLAG = 29


def any_of(maker, wires):
    some = 0
    for wire in wires:
        some = maker.either(some, wire)
    return some


def decoded(maker, figures):
    # Wire k of those told is high where the number of the figures is k.
    wires = [1]
    for figure in figures:
        low = maker.other(figure)
        wires = [maker.both(low, wire) for wire in wires] + [maker.both(figure, wire) for wire in wires]
    return wires


def picked_else(maker, pairs, wires):
    none = is_none(maker, [pair[0] for pair in pairs])
    return picked(maker, pairs + [(none, wires)])


def padded(wires):
    return wires + [0] * (WORD_FIGURES - len(wires))


def fixed(number, figures):
    # The wires 0 and 1 are the low and the high one, so a figure is its own wire.
    return [(number >> figure) & 1 for figure in range(figures)]


def split_parts(wires):
    parts = []
    first = 0
    for width in WIDTHS:
        parts.append(wires[first:first + width])
        first = first + width
    return parts


class Board:
    def __init__(self, maker):
        self.maker = maker
        self.word = maker.inputs()
        self.parts = split_parts(maker.keepers())
        row = self.parts[ROW]
        self.number = row[:PLACE_FIGURES]
        self.ops = decoded(maker, row[PLACE_FIGURES:])
        self.moves = decoded(maker, row[:2])
        self.owns = decoded(maker, row[:4])
        self.mode = self.parts[MODE][0]
        self.following = added(maker, self.parts[P], fixed(1, PLACE_FIGURES), 0)[0]

    def is_op(self, ops):
        return any_of(self.maker, [self.ops[op] for op in ops])

    def is_move(self, kind):
        return self.maker.both(self.ops[MOVE], self.moves[kind])

    def is_own(self, kind):
        return self.maker.both(self.ops[OWN], self.owns[kind])


def within_wires(board):
    maker = board.maker
    number = padded(board.number)
    reached = added(maker, board.parts[X], number, 0)[0]
    of_row = all_chosen(maker, board.is_op([FROM, INTO]), reached, number)
    return all_chosen(maker, board.parts[FETCHED][0], of_row, padded(board.parts[P]))


def asked_wires(board, within):
    begin = [board.maker.both(board.mode, wire) for wire in board.parts[BEGIN]]
    return added(board.maker, begin, within[:PLACE_FIGURES], 0)[0]


def barred_wire(board, within):
    fits = is_less(board.maker, within, padded(board.parts[LENGTH]))
    return board.maker.both(board.mode, board.maker.other(fits))


class Deeds:
    # What a beat does: in each world one of these is high, or none where all is halted.
    def __init__(self, board, barred):
        maker = board.maker
        going = maker.other(board.parts[HALTED][0])
        doing = maker.both(going, board.parts[FETCHED][0])
        fetching = maker.both(going, maker.other(board.parts[FETCHED][0]))
        reaching = maker.either(fetching, maker.both(doing, board.is_op(reaching_ops())))
        self.barred = maker.both(barred, reaching)
        self.not_own = maker.both(maker.both(doing, board.mode), board.is_op([OWN, BACK]))
        self.called = maker.both(doing, board.ops[CALL])
        self.fetched = maker.both(fetching, maker.other(barred))
        self.done = maker.both(doing, maker.other(any_of(maker, [self.barred, self.not_own, self.called])))


def a_pairs(board):
    maker = board.maker
    a = board.parts[A]
    pairs = [(board.ops[SET], padded(board.number)),
             (board.is_op([LOAD, FROM]), board.word),
             (board.ops[ADD], added(maker, a, board.word, 0)[0]),
             (board.ops[TAKE], added(maker, a, others_of(maker, board.word), 1)[0]),
             (board.ops[BOTH], [maker.both(one, another) for one, another in zip(a, board.word)]),
             (board.ops[LINK], padded(board.following)),
             (board.is_move(1), board.parts[X]),
             (board.is_move(2), padded(a[1:])),
             (board.ops[BACK], board.parts[SAVED_A])]
    for kind, part in enumerate(parts_read_by_own()):
        pairs.append((board.is_own(kind), padded(board.parts[part])))
    return pairs


def row_a(board):
    return picked_else(board.maker, a_pairs(board), board.parts[A])


def row_x(board):
    pairs = [(board.is_move(0), board.parts[A]), (board.ops[BACK], board.parts[SAVED_X])]
    return picked_else(board.maker, pairs, board.parts[X])


def row_p(board):
    maker = board.maker
    a = board.parts[A]
    zero = maker.both(board.ops[ZERO], is_none(maker, a))
    below = maker.both(board.ops[BELOW], a[WORD_FIGURES - 1])
    leaps = any_of(maker, [board.is_op([GOTO, LINK]), zero, below])
    pairs = [(leaps, board.number), (board.is_move(3), a[:PLACE_FIGURES]), (board.ops[BACK], board.parts[SAVED_P])]
    return picked_else(maker, pairs, board.following)


class Bell:
    def __init__(self, board, deeds):
        maker = board.maker
        count = board.parts[BELL]
        in_task = maker.both(deeds.done, board.mode)
        self.counts = maker.both(in_task, maker.other(is_none(maker, count)))
        # All figures high are one less than nought, so the sum is one less.
        self.less = added(maker, count, [1] * PLACE_FIGURES, 0)[0]
        self.rings = maker.both(self.counts, is_none(maker, self.less))


def set_by_own(board, deeds):
    # Every part with the pairs by which owns set it.
    pairs = [[] for width in WIDTHS]
    for kind, part in parts_set_by_own():
        does = board.maker.both(deeds.done, board.is_own(kind))
        pairs[part].append((does, board.parts[A][:WIDTHS[part]]))
    return pairs


def next_mode(board, deeds, trap):
    back = board.maker.both(deeds.done, board.ops[BACK])
    return [board.maker.both(board.maker.either(board.mode, back), board.maker.other(trap))]


def next_fetched(board, deeds, trap):
    over = board.maker.either(deeds.done, trap)
    stays = board.maker.both(board.parts[FETCHED][0], board.maker.other(over))
    return [board.maker.either(deeds.fetched, stays)]


def next_halted(board, deeds):
    halts = board.maker.both(deeds.done, board.is_own(OWN_HALT))
    return [board.maker.either(board.parts[HALTED][0], halts)]


def cause_pairs(deeds, bell):
    pairs = [(deeds.barred, BARRED), (deeds.not_own, NOT_OWN), (deeds.called, CALLED), (bell.rings, RUNG)]
    return [(wire, fixed(cause, WIDTHS[CAUSE])) for wire, cause in pairs]


def next_parts(board, deeds):
    maker = board.maker
    parts = board.parts
    bell = Bell(board, deeds)
    on_row = maker.either(deeds.barred, deeds.not_own)
    trap = any_of(maker, [on_row, deeds.called, bell.rings])
    of_row = row_p(board)
    nexts = list(parts)
    nexts[A] = all_chosen(maker, deeds.done, row_a(board), parts[A])
    nexts[X] = all_chosen(maker, deeds.done, row_x(board), parts[X])
    place = all_chosen(maker, deeds.done, of_row, parts[P])
    nexts[P] = all_chosen(maker, trap, fixed(0, PLACE_FIGURES), place)
    nexts[ROW] = all_chosen(maker, deeds.fetched, board.word, parts[ROW])
    nexts[FETCHED] = next_fetched(board, deeds, trap)
    nexts[MODE] = next_mode(board, deeds, trap)
    nexts[HALTED] = next_halted(board, deeds)
    nexts[NUMBER] = all_chosen(maker, deeds.called, board.number, parts[NUMBER])
    pairs = set_by_own(board, deeds)
    pairs[BELL].append((bell.counts, bell.less))
    pairs[SAVED_A].append((trap, nexts[A]))
    pairs[SAVED_X].append((trap, nexts[X]))
    pairs[SAVED_P].extend([(on_row, parts[P]), (deeds.called, board.following), (bell.rings, of_row)])
    pairs[CAUSE].extend(cause_pairs(deeds, bell))
    for part in (BEGIN, LENGTH, BELL, SAVED_A, SAVED_X, SAVED_P, CAUSE):
        nexts[part] = picked_else(maker, pairs[part], parts[part])
    return nexts


def write_wires(board, deeds):
    writes = board.maker.both(deeds.done, board.is_op([STORE, INTO]))
    return [writes] + [board.maker.both(writes, wire) for wire in board.parts[A]]


def processor():
    maker = Maker(WORD_FIGURES, sum(WIDTHS))
    board = Board(maker)
    within = within_wires(board)
    deeds = Deeds(board, barred_wire(board, within))
    nexts = []
    for wires in next_parts(board, deeds):
        nexts.extend(wires)
    tells = maker.both(deeds.done, board.is_own(OWN_TELL))
    return maker.net(nexts, asked_wires(board, within) + write_wires(board, deeds) + [tells])


def values_of(numbers, figures):
    # The wires' values of a list of numbers, number k in world k.
    values = []
    for figure in range(figures):
        value = 0
        for world, number in enumerate(numbers):
            value = value | (((number >> figure) & 1) << world)
        values.append(value)
    return values


def number_in(values, world):
    return sum([((value >> world) & 1) << figure for figure, value in enumerate(values)])


def kept_of(states):
    kept = []
    for part, width in enumerate(WIDTHS):
        kept.extend(values_of([state[part] for state in states], width))
    return kept


def states_of(kept, worlds):
    parts = split_parts(kept)
    return [tuple([number_in(values, world) for values in parts]) for world in range(worlds)]


def net_beats(net, states, words):
    worlds = len(states)
    answer = beat(net, kept_of(states), values_of(words, WORD_FIGURES), worlds)
    outs = answer[1]
    told = []
    for world, after in enumerate(states_of(answer[0], worlds)):
        place = number_in(outs[:PLACE_FIGURES], world)
        write = number_in(outs[WRITE_FLAG + 1:TELL_FLAG], world) if (outs[WRITE_FLAG] >> world) & 1 == 1 else None
        tell = states[world][A] if (outs[TELL_FLAG] >> world) & 1 == 1 else None
        told.append((place, after, write, tell))
    return told
