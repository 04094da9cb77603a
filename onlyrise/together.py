"""Two programs put together, and their papers."""

from onlyrise.errors import NoJoin
from onlyrise.things import MOST_HEADS, MOST_NAMES, head_called
from onlyrise.trees import MOST_RULES, ground_of


def put_together(one, other):
    if not all([agrees(ground_of(one), head) for head in other[1]]):
        raise NoJoin("heads")
    names = with_new(one[0], other[0])
    heads = with_new(one[1], other[1])
    rules = one[2] + other[2]
    if len(names) > MOST_NAMES:
        raise NoJoin("names")
    if len(heads) > MOST_HEADS:
        raise NoJoin("heads")
    if len(rules) > MOST_RULES:
        raise NoJoin("rules")
    return (names, heads, rules)


def agrees(ground, head):
    known = head_called(ground, head[0])
    return known is None or known == head


def with_new(one, other):
    return one + tuple([thing for thing in other if thing not in one])


def papers_together(one, other):
    return one + other
