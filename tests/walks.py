"""Where a piece of code changes what a loop or a comprehension of it walks (L23 of the language)."""

import ast

CHANGING = {"append", "clear", "extend", "insert", "pop", "remove", "reverse", "setdefault", "update", "sort", "add", "discard"}
PASSING = {"enumerate", "zip", "reversed", "items", "keys", "values"}
HEAPS = {"heappush", "heappop", "heapify"}
COMPREHENSIONS = (ast.ListComp, ast.SetComp, ast.DictComp, ast.GeneratorExp)


def place_of(node):
    """The name of a variable, a field of it or an item of one of these (`rows` for `rows[k]`), or None."""
    if isinstance(node, ast.Name):
        return node.id
    if isinstance(node, ast.Subscript):
        return place_of(node.value)
    if isinstance(node, ast.Attribute):
        inner = place_of(node.value)
        return inner and f"{inner}.{node.attr}"
    return None


def called(node):
    return node.func.attr if isinstance(node.func, ast.Attribute) else getattr(node.func, "id", None)


def places(node):
    """All places that an expression can stand for, without a copy of them."""
    if isinstance(node, ast.IfExp):
        return places(node.body) | places(node.orelse)
    if isinstance(node, ast.BoolOp):
        return set().union(*map(places, node.values))
    if isinstance(node, ast.Call) and called(node) in PASSING:
        inner = [node.func.value] if isinstance(node.func, ast.Attribute) else node.args
        return set().union(*map(places, inner))
    return {place_of(node)} - {None}


def pairs(target, value):
    """What is assigned to which target."""
    several = (ast.Tuple, ast.List)
    if isinstance(target, several) and isinstance(value, several) and len(target.elts) == len(value.elts):
        return [pair for one, other in zip(target.elts, value.elts) for pair in pairs(one, other)]
    return [(target, value)]


def names_of_one_thing(tree):
    """For each place in a function the set of those that some assignment of it makes the same, however far round."""
    groups = {}
    for node in ast.walk(tree):
        if not isinstance(node, ast.Assign):
            continue
        # In `low = high = []` each target is given what the next one is given.
        for target, value in [pair for one, other in zip(node.targets, [*node.targets[1:], node.value]) for pair in pairs(one, other)]:
            # What an item is taken from, or put into, is another thing than the item.
            if isinstance(target, ast.Subscript) or isinstance(value, ast.Subscript):
                continue
            joined = set().union(*[groups.get(place, {place}) for place in places(target) | places(value)])
            groups.update({place: joined for place in joined})
    return groups


def changed(node):
    """The places that one node changes, not those to which it gives another thing."""
    if isinstance(node, ast.Call) and called(node) in HEAPS:
        return places(node.args[0])
    if isinstance(node, ast.Call) and isinstance(node.func, ast.Attribute) and node.func.attr in CHANGING:
        return places(node.func.value)
    if isinstance(node, ast.AugAssign):
        return places(node.target)
    if isinstance(node, (ast.Assign, ast.Delete)):
        inner = [part for target in node.targets for part in ast.walk(target) if isinstance(part, ast.Subscript)]
        return set().union(*map(places, inner))
    return set()


def changed_walks(tree):
    """The rows of a tree in which a loop or comprehension changes what it walks, by whatever name, ascending."""
    rows = set()
    for function in [node for node in ast.walk(tree) if isinstance(node, ast.FunctionDef)]:
        groups = names_of_one_thing(function)
        for loop in ast.walk(function):
            if isinstance(loop, ast.For):
                heads, body = [loop.iter], loop.body
            elif isinstance(loop, COMPREHENSIONS):
                heads, body = [part.iter for part in loop.generators], [loop]
            else:
                continue
            walked = set().union(*[groups.get(place, {place}) for head in heads for place in places(head)])
            for node in [inner for part in body for inner in ast.walk(part)]:
                if changed(node) & walked:
                    rows.add(node.lineno)
    return sorted(rows)
