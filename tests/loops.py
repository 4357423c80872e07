"""Loops that change what they walk: found in the tree of a file, for the form of the package's files.

What an expression may stand for is told by words: "level" for a name, ".rows" for a field of this name of any object, and
"[]" behind it for an item. Words are alike if an assignment anywhere in the function, or a loop's head, gives one to the
other: `level = later` makes both one.
"""

import ast

CHANGING = ("append", "extend", "insert", "pop", "remove", "clear", "update", "setdefault", "sort", "reverse", "add", "discard",
            "appendleft", "popleft", "extendleft", "rotate")
HEAPS = ("heappush", "heappop", "heapify", "heapreplace", "heappushpop")
THROUGH = ("enumerate", "zip", "reversed", "iter", "map")
VIEWS = ("items", "keys", "values")
LOOPS = (ast.For, ast.ListComp, ast.DictComp)
DEEPEST = 4


def words_of(node):
    """What an expression may stand for; nothing that is made anew there, as by `list(..)` or a slice."""
    if isinstance(node, ast.Name):
        return [node.id]
    if isinstance(node, ast.Attribute):
        return ["." + node.attr]
    if isinstance(node, ast.Subscript) and not isinstance(node.slice, ast.Slice):
        return [word + "[]" for word in words_of(node.value)]
    if isinstance(node, ast.IfExp):
        return words_of(node.body) + words_of(node.orelse)
    if isinstance(node, ast.BoolOp):
        return [word for value in node.values for word in words_of(value)]
    return []


def walked_by(node):
    """What a loop with this expression in its head walks."""
    if isinstance(node, ast.Call) and isinstance(node.func, ast.Name) and node.func.id in THROUGH:
        return [word for argument in node.args for word in walked_by(argument)]
    if isinstance(node, ast.Call) and isinstance(node.func, ast.Attribute) and node.func.attr in VIEWS:
        return words_of(node.func.value)
    return words_of(node)


def changed_by(node):
    """What a node by itself changes."""
    if isinstance(node, ast.Subscript) and not isinstance(node.ctx, ast.Load):
        return words_of(node.value)
    if isinstance(node, ast.AugAssign):
        return words_of(node.target)
    if isinstance(node, ast.Call) and isinstance(node.func, ast.Attribute) and node.func.attr in CHANGING:
        return words_of(node.func.value)
    if isinstance(node, ast.Call) and isinstance(node.func, ast.Name) and node.func.id in HEAPS:
        return words_of(node.args[0])
    return []


def heads_of(loop):
    """The pairs (target, what is walked) of a loop or a comprehension."""
    parts = [loop] if isinstance(loop, ast.For) else loop.generators
    return [(part.target, part.iter) for part in parts]


def nodes_in(loop):
    """What runs in the turns of a loop or a comprehension."""
    rows = loop.body if isinstance(loop, ast.For) else [loop]
    return [node for row in rows for node in ast.walk(row)]


def given(target, value):
    """The pairs of words of which an assignment gives one to the other."""
    if not isinstance(target, ast.Tuple):
        return [(word, other) for word in words_of(target) for other in words_of(value)]
    if isinstance(value, ast.Tuple) and len(value.elts) == len(target.elts):
        return [pair for inner, part in zip(target.elts, value.elts) for pair in given(inner, part)]
    return [(word, other + "[]") for inner in target.elts for word in words_of(inner) for other in words_of(value)]


def pairs_of(function):
    """The pairs of words that are alike at once in a function."""
    pairs = []
    for node in ast.walk(function):
        if isinstance(node, ast.Assign):
            for target in node.targets:
                pairs += given(target, node.value)
        if isinstance(node, LOOPS):
            for target, walked in heads_of(node):
                pairs += [(word, other + "[]") for word in words_of(target) for other in walked_by(walked)]
    return pairs + [(other, word) for word, other in pairs]


def alike(words, pairs):
    """All words that are alike to some, also by several pairs, and by what they are items of."""
    found = list(words)
    at = 0
    while at < len(found):
        for one, other in pairs:
            if found[at] == one or found[at].startswith(one + "["):
                word = other + found[at][len(one):]
                if word not in found and word.count("[]") <= DEEPEST:
                    found.append(word)
        at += 1
    return found


def changed_while_walked(tree):
    """The ascending list of the pairs (function, row) of what changes something that a loop around it walks."""
    found = []
    for function in ast.walk(tree):
        if isinstance(function, ast.FunctionDef):
            pairs = pairs_of(function)
            for loop in ast.walk(function):
                if isinstance(loop, LOOPS):
                    walked = alike([word for _, head in heads_of(loop) for word in walked_by(head)], pairs)
                    changes = [(node, word) for node in nodes_in(loop) for word in changed_by(node)]
                    found += [(function.name, node.lineno) for node, word in changes if word in walked]
    return sorted(set(found))
