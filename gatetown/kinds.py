"""The kinds of a program's expressions and statements, and its statements in their order."""

from gatetown.errors import BadKind


def kinds_of(variables):
    kinds = {}
    for kind, name, size in variables:
        kinds[name] = kind
    return kinds


def joined_kind(kinds, expr):
    for inner in expr[1:]:
        if kind_by(kinds, inner) != "num":
            return None
    return "flag" if expr[0] in ("<", "=") else "num"


def kind_by(kinds, expr):
    if expr[0] in ("num", "flag"):
        return expr[0]
    if expr[0] == "name":
        kind = kinds.get(expr[1])
        return kind if kind != "list" else None
    if expr[0] == "at":
        is_place = kinds.get(expr[1]) == "list" and kind_by(kinds, expr[2]) == "num"
        return "num" if is_place else None
    if expr[0] == "not":
        return "flag" if kind_by(kinds, expr[1]) == "flag" else None
    return joined_kind(kinds, expr)


def kind_of(variables, expr):
    return kind_by(kinds_of(variables), expr)


def fits(kinds, statement):
    deed = statement[0]
    if deed == "set":
        kind = kind_by(kinds, ("name", statement[1]))
        return kind is not None and kind_by(kinds, statement[2]) == kind
    if deed == "put":
        place = kind_by(kinds, ("at", statement[1], statement[2]))
        return place is not None and kind_by(kinds, statement[3]) == "num"
    if deed == "tell":
        return kind_by(kinds, statement[1]) == "num"
    if deed == "ask":
        return kinds.get(statement[1]) == "num"
    if deed in ("if", "while"):
        return kind_by(kinds, statement[1]) == "flag"
    return True


def with_inner(body):
    found = []
    for statement in body:
        found.append(statement)
        if statement[0] in ("if", "while"):
            for inner in statement[2:]:
                found.extend(with_inner(inner))
    return found


def statements(tree):
    found = []
    for name, body in tree[1]:
        found.extend(with_inner(body))
    return found + with_inner(tree[2])


def looked(tree):
    kinds = kinds_of(tree[0])
    for place, statement in enumerate(statements(tree)):
        if not fits(kinds, statement):
            raise BadKind(place)
    return True
