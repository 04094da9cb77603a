"""Texts read as what they write; any other text is refused with NoText."""

from onlyrise.errors import NoText
from onlyrise.names import is_name
from onlyrise.orders import MOST_WITHIN, is_height, is_order
from onlyrise.roofs import NO_BOUND, is_roof
from onlyrise.standings import is_standing
from onlyrise.things import head_called, is_spoken, order_of
from onlyrise.trees import MOST_TREES_WITHIN

FIGURES = "0123456789"
MOST_FIGURES = 400


def read_number(text):
    if not 1 <= len(text) <= MOST_FIGURES or not all([sign in FIGURES for sign in text]):
        raise NoText(0)
    if text[0] == "0" and text != "0":
        raise NoText(0)
    return int(text)


def within(text, front):
    # What stands between the given front and a closing bracket at the text's end.
    if not text.startswith(front) or not text.endswith(")"):
        raise NoText(0)
    return text[len(front):-1]


def parted(text):
    # Parted at each ; that stands outside all brackets.
    parts = []
    start = 0
    depth = 0
    for place, sign in enumerate(text):
        if sign == "(":
            depth += 1
        elif sign == ")":
            depth -= 1
        elif sign == ";" and depth == 0:
            parts.append(text[start:place])
            start = place + 1
    parts.append(text[start:])
    return parts


def read_order(text):
    order = order_written(text, MOST_WITHIN)
    if not is_order(order):
        raise NoText(0)
    return order


def order_written(text, deep):
    # A text may have brackets within brackets without end, so it is not followed deeper than orders go.
    if deep == 0:
        raise NoText(0)
    if text == "num" or text == "low":
        return (text,)
    sort = text.partition("(")[0]
    inner = within(text, sort + "(")
    if sort == "web":
        halves = inner.partition(";")
        return (sort, names_written(halves[0]), tuple([tuple(pair.split("<")) for pair in halves[2].split(",")]))
    if sort == "row":
        return (sort, tuple([order_written(part, deep - 1) for part in parted(inner)]))
    if sort == "newer":
        return (sort, order_written(inner, deep - 1))
    return (sort, names_written(inner))


def names_written(text):
    return tuple(text.split(","))


def read_height(order, text):
    height = height_written(order, text)
    if not is_height(order, height):
        raise NoText(0)
    return height


def height_written(order, text):
    sort = order[0]
    if sort == "num":
        return read_number(text)
    if sort == "low":
        return None if text == "-" else read_number(text)
    if sort == "chain" or sort == "web":
        return text
    if sort == "set":
        return () if text == "-" else tuple(text.split("+"))
    if sort == "row":
        return row_written(order[1], parted(within(text, "(")))
    halves = text.partition(":")
    return (read_number(halves[0]), height_written(order[1], halves[2]))


def row_written(orders, texts):
    if len(orders) != len(texts):
        raise NoText(0)
    return tuple([height_written(order, text) for order, text in zip(orders, texts)])


def read_thing(ground, text):
    thing = tuple(text.split("."))
    if not is_spoken(ground, thing):
        raise NoText(0)
    return thing


def read_standing(ground, text):
    standing = entries_written(ground, text)
    if not is_standing(ground, standing):
        raise NoText(0)
    return standing


def read_roof(ground, text):
    roof = entries_written(ground, text)
    if not is_roof(ground, roof):
        raise NoText(0)
    return roof


def entries_written(ground, text):
    if text == "-":
        return ()
    return tuple([entry_written(ground, part) for part in text.split(",")])


def entry_written(ground, text):
    halves = text.partition("=")
    thing = read_thing(ground, halves[0])
    if halves[2] == NO_BOUND:
        return (thing, NO_BOUND)
    return (thing, read_height(order_of(ground, thing), halves[2]))


def read_program(rows):
    program = ()
    for number, row in enumerate(rows):
        try:
            program = with_row(program, row.split(" "))
        except NoText:
            raise NoText(number) from None
    if len(program) == 0 or len(program[1]) == 0:
        raise NoText(len(rows))
    return program


def with_row(program, words):
    # No program yet means that the names' row is still to come.
    if len(program) == 0:
        return (read_names(words), (), ())
    names = program[0]
    heads = program[1]
    rules = program[2]
    if words[0] == "head" and len(rules) == 0:
        return (names, heads + (read_head((names, heads), words),), rules)
    if words[0] == "rule" and len(heads) > 0:
        return (names, heads, rules + (read_rule((names, heads), words),))
    raise NoText(0)


def read_names(words):
    if words[0] != "names" or not all([is_name(word) for word in words[1:]]):
        raise NoText(0)
    return tuple(words[1:])


def read_head(ground, words):
    if len(words) != 4 or not is_name(words[1]) or head_called(ground, words[1]) is not None:
        raise NoText(0)
    return (words[1], read_number(words[2]), read_order(words[3]))


def read_rule(ground, words):
    # The words that are left stand last one first, so that the next one can be taken off the end.
    left = list(reversed(words[1:]))
    tree = read_tree(ground, left, MOST_TREES_WITHIN)
    if len(left) > 0:
        raise NoText(0)
    return tree


def taken(left):
    if len(left) == 0:
        raise NoText(0)
    return left.pop()


def read_tree(ground, left, deep):
    if deep == 0:
        raise NoText(0)
    word = taken(left)
    if word == "put":
        return ("put", read_puts(ground, left))
    if word != "ask":
        raise NoText(0)
    thing = read_thing(ground, taken(left))
    height = read_height(order_of(ground, thing), taken(left))
    yes = read_tree(ground, left, deep - 1)
    no = read_tree(ground, left, deep - 1)
    return ("ask", thing, height, yes, no)


def read_puts(ground, left):
    many = read_number(taken(left))
    puts = []
    while len(puts) < many:
        thing = read_thing(ground, taken(left))
        puts.append((thing, read_term(ground, order_of(ground, thing), left)))
    return tuple(puts)


def read_term(ground, order, left):
    sort = taken(left)
    if sort == "just":
        return (sort, read_height(order, taken(left)))
    if sort not in ("of", "plus", "sum", "meet"):
        raise NoText(0)
    thing = read_thing(ground, taken(left))
    if sort == "of":
        return (sort, thing)
    if sort == "plus":
        return (sort, thing, read_number(taken(left)))
    return (sort, thing, read_thing(ground, taken(left)))
