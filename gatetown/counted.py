"""Statements with their numbers, as they are counted in a program's text."""

from gatetown.kinds import with_inner

# An entry is a tuple (number, statement, bodies), bodies the lists of the entries that stand within the statement.
# Numbers go by where a statement stands, for two statements of a tree may well be alike.


def inner_bodies(statement, first):
    bodies = []
    if statement[0] in ("if", "while"):
        for body in statement[2:]:
            bodies.append(counted(body, first))
            first = first + len(with_inner(body))
    return bodies


def counted(body, first):
    entries = []
    for statement in body:
        entries.append((first, statement, inner_bodies(statement, first + 1)))
        first = first + len(with_inner([statement]))
    return entries


def counted_tree(tree):
    # A tuple of the parts, each a tuple of its name and its entries, and of main's entries.
    parts = []
    first = 0
    for name, body in tree[1]:
        parts.append((name, counted(body, first)))
        first = first + len(with_inner(body))
    return (parts, counted(tree[2], first))
