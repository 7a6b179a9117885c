"""Nets of gates and keepers, their beats, and a maker of nets."""

# The wire that is always low and the one that is always high stand ahead of the inputs.
FIXED_WIRES = 2


def are_wires(wires, count):
    return all([0 <= wire < count for wire in wires])


def is_net(net):
    ins = net[0]
    keeps = net[1]
    gates = net[2]
    nexts = net[3]
    outs = net[4]
    # A count below nought could hide behind a greater one, so the sum alone does not tell.
    if ins < 0 or keeps < 0 or len(nexts) != keeps:
        return False
    count = FIXED_WIRES + ins + keeps
    for gate in gates:
        if not are_wires(gate, count):
            return False
        count = count + 1
    return are_wires(nexts, count) and are_wires(outs, count)


def beat(net, kept, ins, worlds):
    high = (1 << worlds) - 1
    # Bits beyond the worlds belong to no world, so they are left out of what is told.
    wires = [0, high] + [value & high for value in ins + kept]
    for a, b in net[2]:
        wires.append(high ^ (wires[a] & wires[b]))
    return ([wires[wire] for wire in net[3]], [wires[wire] for wire in net[4]])


class Maker:
    def __init__(self, ins, keeps):
        self.ins = ins
        self.keeps = keeps
        self.gates = []

    def inputs(self):
        return list(range(FIXED_WIRES, FIXED_WIRES + self.ins))

    def keepers(self):
        first = FIXED_WIRES + self.ins
        return list(range(first, first + self.keeps))

    def nand(self, a, b):
        wire = FIXED_WIRES + self.ins + self.keeps + len(self.gates)
        self.gates.append((a, b))
        return wire

    def other(self, a):
        return self.nand(a, a)

    def both(self, a, b):
        return self.other(self.nand(a, b))

    def either(self, a, b):
        return self.nand(self.other(a), self.other(b))

    def unlike(self, a, b):
        # Sharing the first gate needs four gates, where two choices would need more.
        shared = self.nand(a, b)
        return self.nand(self.nand(a, shared), self.nand(b, shared))

    def chosen(self, which, a, b):
        return self.nand(self.nand(which, a), self.nand(self.other(which), b))

    def net(self, nexts, outs):
        # Copies, so that a net that was told stays as it was when the maker goes on.
        return (self.ins, self.keeps, list(self.gates), list(nexts), list(outs))
