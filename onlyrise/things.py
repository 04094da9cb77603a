"""Grounds, and the things of a ground."""

from onlyrise.kinds import is_count, is_tuple
from onlyrise.names import are_unlike_names, is_mark
from onlyrise.orders import is_height, is_order

MOST_NAMES = 4
MOST_HEADS = 5


def is_ground(thing):
    return is_tuple(thing, 2, 2) and are_unlike_names(thing[0], 1, MOST_NAMES) and are_heads(thing[1])


def are_heads(thing):
    if not isinstance(thing, tuple) or not all([is_head(head) for head in thing]):
        return False
    return are_unlike_names(tuple([head[0] for head in thing]), 1, MOST_HEADS)


def is_head(thing):
    # Whether its name is one is asked of all heads at once, as they must be unlike, too.
    return is_tuple(thing, 3, 3) and is_count(thing[1]) and thing[1] <= 2 and is_order(thing[2])


def is_thing(ground, thing):
    return has_words(ground, thing) and all([word in ground[0] for word in thing[1:]])


def is_risen(ground, thing, height):
    return is_thing(ground, thing) and is_height(order_of(ground, thing), height)


def is_spoken(ground, thing):
    return has_words(ground, thing) and all([word in ground[0] or is_mark(word) for word in thing[1:]])


def has_words(ground, thing):
    if not isinstance(thing, tuple) or len(thing) == 0:
        return False
    head = head_called(ground, thing[0])
    return head is not None and len(thing) == 1 + head[1]


def head_called(ground, word):
    for head in ground[1]:
        if head[0] == word:
            return head
    return None


def things_of(ground):
    found = []
    for head in ground[1]:
        things = [(head[0],)]
        for place in range(head[1]):
            things = with_each(things, ground[0])
        found.extend(things)
    return sorted(found)


def with_each(rows, words):
    found = []
    for row in rows:
        found.extend([row + (word,) for word in words])
    return found


def order_of(ground, thing):
    return head_called(ground, thing[0])[2]
