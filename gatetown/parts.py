"""Numbers on wires: lists of wires, the lowest figure first."""


def added(maker, ones, others, carry):
    wires = []
    for one, another in zip(ones, others):
        odd = maker.unlike(one, another)
        wires.append(maker.unlike(odd, carry))
        # Where both figures are alike, either of them is the carry.
        carry = maker.chosen(odd, carry, one)
    return (wires, carry)


def others_of(maker, ones):
    return [maker.other(wire) for wire in ones]


def all_chosen(maker, which, ones, others):
    return [maker.chosen(which, one, another) for one, another in zip(ones, others)]


def is_none(maker, ones):
    some = 0
    for wire in ones:
        some = maker.either(some, wire)
    return maker.other(some)


def is_less(maker, ones, others):
    less = 0
    # The highest figure that differs settles it, so later figures overrule earlier ones.
    for one, another in zip(ones, others):
        less = maker.chosen(maker.unlike(one, another), another, less)
    return less


def picked_figure(maker, pairs, figure):
    some = 0
    for wire, wires in pairs:
        some = maker.either(some, maker.both(wire, wires[figure]))
    return some


def picked(maker, pairs):
    return [picked_figure(maker, pairs, figure) for figure in range(len(pairs[0][1]))]
