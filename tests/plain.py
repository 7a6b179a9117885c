"""What the tests share: plain reckoning of nets, bits, numbers and the processor's beats."""

from gatetown.gates import beat


def walk(net, kept, ins):
    """One world's beat, wire by wire, on lists of 0 and 1."""
    wires = [0, 1]
    wires.extend(ins)
    wires.extend(kept)
    for a, b in net[2]:
        if wires[a] == 1 and wires[b] == 1:
            wires.append(0)
        else:
            wires.append(1)
    return [wires[w] for w in net[3]], [wires[w] for w in net[4]]


def bits_of(number, figures):
    return [(number >> k) & 1 for k in range(figures)]


def number_of(bits):
    return sum(bit << k for k, bit in enumerate(bits))


def packed(rows, width):
    """The wires' values of a list of worlds, each a list of 0 and 1."""
    return [sum(row[w] << k for k, row in enumerate(rows)) for w in range(width)]


def unpacked(values, worlds):
    return [[(value >> k) & 1 for value in values] for k in range(worlds)]


def all_rows(width):
    return [bits_of(k, width) for k in range(1 << width)]


def outs_of(maker, outs, rows):
    """The outs of a maker's net for each row of input bits, 256 worlds at a time."""
    net = maker.net([], outs)
    told = []
    for first in range(0, len(rows), 256):
        some = rows[first:first + 256]
        ins = packed(some, net[0])
        told.extend(unpacked(beat(net, [], ins, len(some))[1], len(some)))
    return told


def random_net(source, ins, keeps, gates, outs):
    first = 2 + ins + keeps
    pairs = [(source.randrange(first + k), source.randrange(first + k)) for k in range(gates)]
    count = first + gates
    return (ins, keeps, pairs,
            [source.randrange(count) for _ in range(keeps)],
            [source.randrange(count) for _ in range(outs)])


STATE = "a x p i f m b l t sa sx sp c n h".split()
FIGURES = [16, 16, 12, 16, 1, 1, 12, 12, 12, 16, 16, 12, 3, 12, 1]
WORD_EDGES = [0, 1, 2, 4094, 4095, 4096, 32766, 32767, 32768, 65534, 65535]
PLACE_EDGES = [0, 1, 2, 2047, 2048, 4094, 4095]


def state_with(**numbers):
    """A state of the named numbers, all others 0."""
    return tuple(numbers.pop(name, 0) for name in STATE)


def place_by_words(state):
    """Point [7], word by word: the v of a state, and the place that is asked for."""
    s = dict(zip(STATE, state))
    op, number = divmod(s["i"], 4096)
    if s["f"] == 0:
        v = s["p"]
    elif op == 9 or op == 10:
        v = (s["x"] + number) % 65536
    else:
        v = number
    return v, (v % 4096 if s["m"] == 0 else (s["b"] + v) % 4096)


def beat_by_words(state, word):
    """Point [8], word by word."""
    s = dict(zip(STATE, state))
    op, number = divmod(s["i"], 4096)
    v = place_by_words(state)[0]
    bars = s["m"] == 1 and not v < s["l"]
    write = None
    tell = None

    def trap(cause, sp):
        s["sa"], s["sx"], s["sp"], s["c"] = s["a"], s["x"], sp % 4096, cause
        s["m"] = s["p"] = s["f"] = 0

    def told():
        return tuple(s[name] for name in STATE), write, tell

    if s["h"] == 1:
        return state, None, None
    if s["f"] == 0:
        if bars:
            trap(1, s["p"])
        else:
            s["i"], s["f"] = word, 1
        return told()
    if op in [1, 2, 3, 4, 5, 9, 10] and bars:
        trap(1, s["p"])
        return told()
    if op in [14, 15] and s["m"] == 1:
        trap(2, s["p"])
        return told()
    if op == 13:
        s["n"] = number
        trap(3, s["p"] + 1)
        return told()
    was_task = s["m"] == 1
    a = s["a"]
    follows = (s["p"] + 1) % 4096
    s["f"], s["p"] = 0, follows
    if op == 0:
        s["a"] = number
    elif op == 1 or op == 9:
        s["a"] = word
    elif op == 2 or op == 10:
        write = a
    elif op == 3:
        s["a"] = (a + word) % 65536
    elif op == 4:
        s["a"] = (a - word) % 65536
    elif op == 5:
        s["a"] = a & word
    elif op == 6 or op == 7 and a == 0 or op == 8 and a >= 32768:
        s["p"] = number
    elif op == 11 and number % 4 == 0:
        s["x"] = a
    elif op == 11 and number % 4 == 1:
        s["a"] = s["x"]
    elif op == 11 and number % 4 == 2:
        s["a"] = a // 2
    elif op == 11:
        s["p"] = a % 4096
    elif op == 12:
        s["a"], s["p"] = follows, number
    elif op == 14 and number % 16 in range(5):
        s["a"] = s[["sa", "sx", "sp", "c", "n"][number % 16]]
    elif op == 14 and number % 16 == 5:
        s["h"] = 1
    elif op == 14 and number % 16 == 6:
        tell = a
    elif op == 14 and number % 16 in [8, 9]:
        s[{8: "sa", 9: "sx"}[number % 16]] = a
    elif op == 14 and number % 16 in [10, 11, 12, 13]:
        s[{10: "sp", 11: "b", 12: "l", 13: "t"}[number % 16]] = a % 4096
    elif op == 15:
        s["a"], s["x"], s["p"], s["m"] = s["sa"], s["sx"], s["sp"], 1
    if was_task and s["t"] > 0:
        s["t"] -= 1
        if s["t"] == 0:
            trap(4, s["p"])
    return told()


def drawn_number(source, figures):
    edges = WORD_EDGES if figures == 16 else PLACE_EDGES
    if figures < 12 or source.randrange(2) == 0:
        return source.randrange(1 << figures)
    return source.choice(edges)


def drawn_state(source, op=None, mode=None, fetched=None, halted=0):
    """A state near the edges: the stretch's length often is the place's, the one below or above it."""
    s = {name: drawn_number(source, figures) for name, figures in zip(STATE, FIGURES)}
    s["h"] = halted
    if op is not None:
        s["i"] = op * 4096 + source.choice([drawn_number(source, 12), source.randrange(16)])
    if mode is not None:
        s["m"] = mode
    if fetched is not None:
        s["f"] = fetched
    s["t"] = source.choice([0, 0, 1, 1, 2, 4095, s["t"]])
    v = place_by_words(tuple(s[name] for name in STATE))[0]
    near = source.randrange(5)
    if near < 3 and 0 <= v - 1 + near < 4096:
        s["l"] = v - 1 + near
    elif near == 3:
        s["l"] = 4095
    return tuple(s[name] for name in STATE)


def drawn_word(source):
    return drawn_number(source, 16)


def drawn_cases(source, each):
    """States and words: every op in either mode, so many each, as many fetches, and some halted states."""
    cases = []
    for mode in [0, 1]:
        for op in range(16):
            for _ in range(each):
                cases.append((drawn_state(source, op, mode, 1), drawn_word(source)))
                cases.append((drawn_state(source, op, mode, 0), drawn_word(source)))
            for _ in range(each // 8 + 1):
                cases.append((drawn_state(source, op, mode, None, 1), drawn_word(source)))
    return cases
