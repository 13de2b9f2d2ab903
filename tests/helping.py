"""What several tests use."""

from listasks.errors import AskError


def refusal(call, *given):
    """The error that a call raises, as (name of its class, its attributes ..), or None."""
    try:
        call(*given)
    except AskError as error:
        return (error.__class__.__name__, *vars(error).values())
    return None


def listed(thing):
    """The thing with lists in the place of all its tuples."""
    if isinstance(thing, (list, tuple)):
        return [listed(part) for part in thing]
    return thing


def nested(count, wrap, inner):
    for _ in range(count):
        inner = wrap(inner)
    return inner
