"""Chains of steps, each of which rewrites one place of a program's asking."""

from listasks.errors import BadChain, BadTerm, Misfit, NoPath, Unknown
from listasks.kinds import same_kind
from listasks.kindsfound import closed_kinds
from listasks.programs import binds_one_of, known_kinds, with_asking
from listasks.rules import RULES, apply_rule
from listasks.terms import at_path, check_term, children, put_at, same_term, scoped_nodes

_OTHER_WAY = {"on": "back", "back": "on"}


def judge_chain(program, steps):
    _, fault = _followed(program, steps)
    return fault


def led_by(program, steps):
    return with_asking(program, _good_askings(program, steps)[-1])


def turned_chain(program, steps):
    askings = _good_askings(program, steps)
    turned = []
    for (path, rule, way, _), asking in zip(steps, askings):
        turned.append((tuple(path), rule, _OTHER_WAY[way], at_path(asking, path)))
    return tuple(turned[::-1])


def _good_askings(program, steps):
    askings, fault = _followed(program, steps)
    if fault is not None:
        at, word = fault
        raise BadChain(at, word)
    return askings


def _followed(program, steps):
    """Return the askings from the program's on, one more behind each good step, and the first fault."""
    askings = [program.asking]
    for at, step in enumerate(steps):
        asking, word = _asking_behind(program, askings[-1], step)
        if word is not None:
            return askings, (at, word)
        askings.append(asking)
    return askings, None


def _asking_behind(program, asking, step):
    """Return (the asking behind a step, None), or (None, the first word that applies to it)."""
    path, rule, way, passed = step
    try:
        ahead = at_path(asking, path)
    except NoPath:
        return None, "path"
    if rule != "rename" and rule not in RULES:
        return None, "rule"
    if way != "on" and way != "back":
        return None, "way"
    try:
        after = check_term(passed)
    except BadTerm:
        return None, "after"
    if not _leads(program, rule, way, ahead, after):
        return None, "result"
    try:
        whole = check_term(put_at(asking, path, after))
    except BadTerm:
        return None, "size"
    if not _keeps_kind(program, whole):
        return None, "kind"
    return whole, None


def _leads(program, rule, way, ahead, after):
    """Tell whether the rule leads from one term to the other, this way about."""
    if rule == "rename":
        return same_term(ahead, after)
    left, right = (ahead, after) if way == "on" else (after, ahead)
    told = apply_rule(rule, left, program.definitions)
    return told is not None and same_term(told, right)


def _keeps_kind(program, asking):
    if binds_one_of(asking, [name for name, _ in program.definitions]):
        return False
    try:
        kinds = closed_kinds(program.heads, known_kinds(program), asking)
    except (Unknown, Misfit):
        return False
    return same_kind(kinds[0][1], program.kind)


def on_steps(program):
    for path, node, _ in scoped_nodes(program.asking):
        for rule in RULES:
            after = apply_rule(rule, node, program.definitions)
            if after is not None:
                yield (path, rule, "on", after)


def settling_steps(program):
    steps, _ = _settled(program)
    return tuple(steps)


def settled_program(program):
    _, asking = _settled(program)
    return with_asking(program, asking)


def _settled(program):
    """Return the steps that settle a program, and the asking behind them."""
    steps = []
    asking = program.asking
    step = ((), "as", "back", ("as", program.asking, program.kind))
    while step is not None:
        path, _, _, after = step
        try:
            asking = check_term(put_at(asking, path, after))
        except BadTerm:
            raise BadChain(len(steps), "size") from None
        steps.append(step)
        step = _next_settling(asking, program.definitions)
    return steps, asking


def _next_settling(asking, definitions):
    """Return the first step within the outermost `as` that leads into no fn, or None."""
    rules = RULES[:RULES.index("bare") + 1]
    todo = [((0,), asking[1])]
    while todo:
        path, node = todo.pop()
        for rule in rules:
            after = apply_rule(rule, node, definitions)
            if after is not None:
                return (path, rule, "on", after)
        if node[0] != "fn":
            parts = children(node)
            for at in reversed(range(len(parts))):
                todo.append((path + (at,), parts[at]))
    return None
