"""Rules and programs: which things are right ones, and what they are made of."""

from onlyrise.errors import NoProgram
from onlyrise.heights import least
from onlyrise.kinds import is_count, is_tuple
from onlyrise.names import is_mark
from onlyrise.orders import is_height
from onlyrise.things import is_ground, is_spoken, order_of, with_each

MOST_RULES = 6
MOST_LEAVES = 8
MOST_TREES_WITHIN = 5
MOST_MARKS = 3
MOST_PUTS = 3
MOST_PLUS = 1000


def right_program(thing):
    if not is_tuple(thing, 3, 3) or not is_ground(ground_of(thing)) or not is_tuple(thing[2], 0, MOST_RULES):
        raise NoProgram(-1)
    for number, rule in enumerate(thing[2]):
        if not is_rule(ground_of(thing), rule):
            raise NoProgram(number)
    return True


def ground_of(program):
    return (program[0], program[1])


def is_rule(ground, thing):
    # How deep it goes is looked at first, so that only a shallow tree is walked.
    if not is_tree(ground, thing, MOST_TREES_WITHIN):
        return False
    return len(leaves_of(thing)) <= MOST_LEAVES and len(marks_of(thing)) <= MOST_MARKS


def is_tree(ground, thing, deep):
    if deep == 0:
        return False
    if is_tuple(thing, 2, 2):
        return thing[0] == "put" and are_puts(ground, thing[1])
    if not is_tuple(thing, 5, 5) or thing[0] != "ask" or not is_asked(ground, thing[1], thing[2]):
        return False
    return is_tree(ground, thing[3], deep - 1) and is_tree(ground, thing[4], deep - 1)


def is_asked(ground, thing, height):
    if not is_spoken(ground, thing):
        return False
    order = order_of(ground, thing)
    return is_height(order, height) and height != least(order)


def are_puts(ground, thing):
    return is_tuple(thing, 0, MOST_PUTS) and all([is_put(ground, put) for put in thing])


def is_put(ground, thing):
    if not is_tuple(thing, 2, 2) or not is_spoken(ground, thing[0]):
        return False
    return is_term(ground, order_of(ground, thing[0]), thing[1])


def is_term(ground, order, thing):
    if not is_tuple(thing, 2, 3):
        return False
    sort = thing[0]
    if sort == "just":
        return len(thing) == 2 and is_height(order, thing[1])
    if not has_order(ground, order, thing[1]):
        return False
    if len(thing) == 2:
        return sort == "of"
    if sort == "plus":
        return order[0] in ("num", "low") and is_count(thing[2]) and thing[2] <= MOST_PLUS
    if sort == "sum":
        return order[0] in ("num", "low") and has_order(ground, order, thing[2])
    return sort == "meet" and order[0] in ("num", "low", "chain", "set") and has_order(ground, order, thing[2])


def has_order(ground, order, thing):
    return is_spoken(ground, thing) and order_of(ground, thing) == order


def sources_of(term):
    if term[0] == "just":
        return ()
    if term[0] in ("sum", "meet"):
        return (term[1], term[2])
    return (term[1],)


def number_added(term):
    # An of counts as a plus of nothing.
    return term[2] if term[0] == "plus" else 0


def things_in(tree):
    if tree[0] == "ask":
        return [tree[1]] + things_in(tree[3]) + things_in(tree[4])
    found = []
    for thing, term in tree[1]:
        found.append(thing)
        found.extend(sources_of(term))
    return found


def marks_of(rule):
    marks = []
    for thing in things_in(rule):
        marks.extend([word for word in thing[1:] if is_mark(word)])
    return tuple(sorted(set(marks)))


def leaves_of(rule):
    return leaves_behind((), rule)


def leaves_behind(path, tree):
    if tree[0] == "put":
        return [(path, tree[1])]
    yes = leaves_behind(path + ((tree[1], tree[2], True),), tree[3])
    return yes + leaves_behind(path + ((tree[1], tree[2], False),), tree[4])


def cases_of(program):
    names = sorted(program[0])
    found = []
    for number, rule in enumerate(program[2]):
        choices = [()]
        for mark in marks_of(rule):
            choices = with_each(choices, names)
        found.extend([(number, words) for words in choices])
    return found


def is_case(program, thing):
    if not is_tuple(thing, 2, 2) or not is_count(thing[0]) or thing[0] >= len(program[2]):
        return False
    many = len(marks_of(program[2][thing[0]]))
    return is_tuple(thing[1], many, many) and all([word in program[0] for word in thing[1]])


def named(rule, case, thing):
    return named_thing(names_by_mark(rule, case), thing)


def names_by_mark(rule, case):
    return dict(zip(marks_of(rule), case[1]))


def named_thing(names, thing):
    # A head is never a mark, so it stays as it is, as names do.
    return tuple([names.get(word, word) for word in thing])


def named_term(names, term):
    sources = tuple([named_thing(names, thing) for thing in sources_of(term)])
    return (term[0],) + sources + term[1 + len(sources):]


def named_tree(names, tree):
    if tree[0] == "put":
        return ("put", tuple([(named_thing(names, thing), named_term(names, term)) for thing, term in tree[1]]))
    return ("ask", named_thing(names, tree[1]), tree[2], named_tree(names, tree[3]), named_tree(names, tree[4]))


def named_rule(program, case):
    rule = program[2][case[0]]
    return named_tree(names_by_mark(rule, case), rule)
