"""Cells and trees told by another way: by functions that call themselves for what stands within."""

PLAIN = ("number", "text", "truth", "column", "none")


def spelled(node):
    """The text of a cell, thing or tree."""
    word = node[0]
    if word == "number":
        return str(node[1])
    if word == "text":
        return f'"{node[1]}"'
    if word == "truth":
        return "(truth yes)" if node[1] else "(truth no)"
    if word == "column":
        return f"(column {node[1]} {node[2]})"
    if word == "leaf":
        tests = "".join(" " + spelled(test) for test in node[1])
        return f"(leaf (tests{tests}) {spelled(node[2])})"
    if word == "record":
        return "(record" + "".join(f" {label} {spelled(part)}" for label, part in node[1]) + ")"
    if word == "for":
        return f"(for {node[1]} {spelled(node[2])})"
    parts = node[1] if word == "parts" else node[1:]
    return "(" + " ".join([word] + [spelled(part) for part in parts]) + ")"


def inner(node, change):
    """The node with change(part) in the place of each part directly within it."""
    word = node[0]
    if word in PLAIN:
        return node
    if word == "leaf":
        return ("leaf", tuple(change(test) for test in node[1]), change(node[2]))
    if word == "record":
        return ("record", tuple((label, change(part)) for label, part in node[1]))
    if word == "parts":
        return ("parts", tuple(change(part) for part in node[1]))
    if word == "for":
        return ("for", node[1], change(node[2]))
    return (word, *[change(part) for part in node[1:]])


def row_of_tests(tests):
    sides = []
    for test in tests:
        if test[0] == "and":
            sides += row_of_tests([test[1]]) + row_of_tests([test[2]])
        else:
            sides.append(test)
    if ("truth", False) in sides:
        return [("truth", False)]
    texts = {spelled(test): test for test in sides if test != ("truth", True)}
    return [texts[text] for text in sorted(texts)]


def canonical(node):
    """The node with all trees within it, and itself if it is one, made canonical."""
    node = inner(node, canonical)
    if node[0] == "for" and node[2] == ("none",):
        return ("none",)
    if node[0] == "leaf":
        tests = row_of_tests(node[1])
        return ("none",) if ("truth", False) in tests else ("leaf", tuple(tests), node[2])
    if node[0] == "parts":
        trees = []
        for tree in node[1]:
            if tree[0] == "parts":
                trees += tree[1]
            elif tree[0] != "none":
                trees.append(tree)
        if len(trees) < 2:
            return trees[0] if trees else ("none",)
        return ("parts", tuple(trees))
    return node


def is_canonical(node):
    """Whether all trees within a node, and itself if it is one, are canonical, as [6.1] says."""
    good = []
    inner(node, lambda part: good.append(is_canonical(part)) or part)
    if node[0] == "for":
        good.append(node[2][0] != "none")
    if node[0] == "parts":
        good.append(len(node[1]) >= 2 and all(tree[0] not in ("parts", "none") for tree in node[1]))
    if node[0] == "leaf":
        texts = [spelled(test) for test in node[1]]
        good.append(texts == sorted(set(texts)) and all(test[0] not in ("and", "truth") for test in node[1]))
    return all(good)


def lifted(node, depth, by):
    """The node with its rows moved, nothing sorted."""
    if node[0] == "column":
        return ("column", node[1] + by if node[1] >= depth else node[1], node[2])
    return inner(node, lambda part: lifted(part, depth, by))


def value_at(cell, choice, store):
    """What a cell is worth."""
    word = cell[0]
    if word in ("number", "text", "truth"):
        return cell[1]
    if word == "column":
        table, number = choice[cell[1]]
        columns = [column for column, _ in dict(store.heads)[table]]
        return dict(store.rows_of(table))[number][columns.index(cell[2])]
    if word in ("empty", "count", "total"):
        leaves = leaves_held(cell[1], choice, store)
        if word == "total":
            return sum(value_at(thing, rows, store) for _, rows, thing in leaves)
        return len(leaves) if word == "count" else not leaves
    if word == "if":
        return value_at(cell[2 if value_at(cell[1], choice, store) else 3], choice, store)
    worths = [value_at(part, choice, store) for part in cell[1:]]
    return {
        "plus": lambda a, b: a + b, "minus": lambda a, b: a - b, "times": lambda a, b: a * b,
        "equal": lambda a, b: a == b, "less": lambda a, b: a < b, "and": lambda a, b: a and b,
        "or": lambda a, b: a or b, "not": lambda a: not a,
    }[word](*worths)


def leaves_held(tree, choice, store):
    """The leaves held, as (key, choice, thing)."""
    if tree[0] == "none":
        return []
    if tree[0] == "leaf":
        return [((), choice, tree[2])] if all(value_at(test, choice, store) for test in tree[1]) else []
    if tree[0] == "parts":
        return [((k,) + key, rows, thing) for k, part in enumerate(tree[1])
                for key, rows, thing in leaves_held(part, choice, store)]
    return [((number,) + key, rows, thing) for number in sorted(dict(store.rows_of(tree[1])))
            for key, rows, thing in leaves_held(tree[2], choice + ((tree[1], number),), store)]


def told(thing, choice, store):
    """The value of a thing."""
    if thing[0] == "record":
        return tuple((label, told(part, choice, store)) for label, part in thing[1])
    if thing[0] == "list":
        return [told(part, rows, store) for _, rows, part in leaves_held(thing[1], choice, store)]
    return value_at(thing, choice, store)


def all_leaves(tree, depth):
    """The leaves of a tree as (items, tables, tests, thing)."""
    if tree[0] == "leaf":
        return [((), (), tree[1], tree[2])]
    if tree[0] == "for":
        return [((("row", depth),) + items, (tree[1],) + tables, tests, thing)
                for items, tables, tests, thing in all_leaves(tree[2], depth + 1)]
    if tree[0] == "parts":
        return [((("part", k),) + items, tables, tests, thing) for k, part in enumerate(tree[1])
                for items, tables, tests, thing in all_leaves(part, depth)]
    return []
