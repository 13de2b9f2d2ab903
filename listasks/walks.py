"""Working out a value for a tree from the values of its parts, without recursion."""


def fold(root, opened, made):
    """Return made(node, values) for the root, the values being those of the parts opened(node).

    Kinds and values may lie deeper within each other than functions can call each other, so two
    stacks are kept instead: the nodes still to do, and the values already worked out.
    """
    todo = [(root, None)]
    done = []
    while todo:
        node, count = todo.pop()
        if count is None:
            parts = opened(node)
            todo.append((node, len(parts)))
            for part in reversed(parts):
                todo.append((part, None))
        else:
            start = len(done) - count
            values = done[start:]
            del done[start:]
            done.append(made(node, values))
    return done[0]
