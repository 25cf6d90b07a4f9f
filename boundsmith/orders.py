"""Orders of things by what goes ahead of what."""


def order_of(many, pairs):
    """All numbers below many, each behind those that pairs tell ahead of it; None where these go round."""
    behind = [[] for _ in range(many)]
    lacking = [0] * many
    for first, second in pairs:
        behind[first].append(second)
        lacking[second] += 1
    order = [number for number in range(many) if lacking[number] == 0]
    for place in range(many):
        if place == len(order):
            return None
        followers = behind[order[place]]
        for follower in followers:
            lacking[follower] -= 1
            if lacking[follower] == 0:
                order.append(follower)
    return order
