"""Orders of things: lists of all numbers, and what goes ahead of what."""

from boundsmith.errors import BadTasks
from boundsmith.names import is_whole


def need_order(many, thing):
    """Refuse what is no list of all numbers below many, each once."""
    if not isinstance(thing, list) or not all([is_whole(number) for number in thing]):
        raise BadTasks("no list of whole numbers")
    if sorted(thing) != list(range(many)):
        raise BadTasks("not each number stands once in the list")


def order_of(many, pairs):
    """All numbers below many, each behind those that pairs tell ahead of it; None where these go round."""
    behind = [[] for _ in range(many)]
    lacking = [0] * many
    for first, second in pairs:
        behind[first].append(second)
        lacking[second] += 1
    order = [number for number in range(many) if lacking[number] == 0]
    for place in range(many):
        if place == len(order):
            return None
        followers = behind[order[place]]
        for follower in followers:
            lacking[follower] -= 1
            if lacking[follower] == 0:
                order.append(follower)
    return order
