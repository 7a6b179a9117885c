"""What the tests share: plain reckoning of nets, bits and numbers."""

from gatetown.gates import beat


def walk(net, kept, ins):
    """One world's beat, wire by wire, on lists of 0 and 1."""
    wires = [0, 1]
    wires.extend(ins)
    wires.extend(kept)
    for a, b in net[2]:
        if wires[a] == 1 and wires[b] == 1:
            wires.append(0)
        else:
            wires.append(1)
    return [wires[w] for w in net[3]], [wires[w] for w in net[4]]


def bits_of(number, figures):
    return [(number >> k) & 1 for k in range(figures)]


def number_of(bits):
    return sum(bit << k for k, bit in enumerate(bits))


def packed(rows, width):
    """The wires' values of a list of worlds, each a list of 0 and 1."""
    return [sum(row[w] << k for k, row in enumerate(rows)) for w in range(width)]


def unpacked(values, worlds):
    return [[(value >> k) & 1 for value in values] for k in range(worlds)]


def all_rows(width):
    return [bits_of(k, width) for k in range(1 << width)]


def outs_of(maker, outs, rows):
    """The outs of a maker's net for each row of input bits, 256 worlds at a time."""
    net = maker.net([], outs)
    told = []
    for first in range(0, len(rows), 256):
        some = rows[first:first + 256]
        ins = packed(some, net[0])
        told.extend(unpacked(beat(net, [], ins, len(some))[1], len(some)))
    return told


def random_net(source, ins, keeps, gates, outs):
    first = 2 + ins + keeps
    pairs = [(source.randrange(first + k), source.randrange(first + k)) for k in range(gates)]
    count = first + gates
    return (ins, keeps, pairs,
            [source.randrange(count) for _ in range(keeps)],
            [source.randrange(count) for _ in range(outs)])
