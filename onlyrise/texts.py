"""Orders, heights, things, standings, roofs and programs written as texts."""

from onlyrise.roofs import NO_BOUND
from onlyrise.things import order_of


def order_text(order):
    sort = order[0]
    if sort == "num" or sort == "low":
        return sort
    if sort == "row":
        inner = ";".join([order_text(part) for part in order[1]])
    elif sort == "newer":
        inner = order_text(order[1])
    else:
        inner = ",".join(order[1])
    if sort == "web":
        inner = inner + ";" + ",".join(["<".join(pair) for pair in order[2]])
    return f"{sort}({inner})"


def height_text(order, height):
    sort = order[0]
    if sort == "num" or sort == "low":
        return "-" if height is None else str(height)
    if sort == "chain" or sort == "web":
        return height
    if sort == "set":
        return "+".join(height) if len(height) > 0 else "-"
    if sort == "row":
        return "(" + ";".join([height_text(part, inner) for part, inner in zip(order[1], height)]) + ")"
    return str(height[0]) + ":" + height_text(order[1], height[1])


def thing_text(thing):
    return ".".join(thing)


def standing_text(ground, standing):
    # A standing is a roof, too.
    return roof_text(ground, standing)


def roof_text(ground, roof):
    if len(roof) == 0:
        return "-"
    return ",".join([thing_text(thing) + "=" + bound_text(order_of(ground, thing), bound) for thing, bound in roof])


def bound_text(order, bound):
    return NO_BOUND if bound == NO_BOUND else height_text(order, bound)


def program_rows(program):
    ground = (program[0], program[1])
    rows = [" ".join(("names",) + program[0])]
    for head in program[1]:
        rows.append(" ".join(["head", head[0], str(head[1]), order_text(head[2])]))
    for rule in program[2]:
        rows.append(" ".join(["rule"] + tree_words(ground, rule)))
    return rows


def tree_words(ground, tree):
    if tree[0] == "put":
        return puts_words(ground, tree[1])
    height = height_text(order_of(ground, tree[1]), tree[2])
    return ["ask", thing_text(tree[1]), height] + tree_words(ground, tree[3]) + tree_words(ground, tree[4])


def puts_words(ground, puts):
    words = ["put", str(len(puts))]
    for thing, term in puts:
        words.append(thing_text(thing))
        words.extend(term_words(order_of(ground, thing), term))
    return words


def term_words(order, term):
    sort = term[0]
    if sort == "just":
        return [sort, height_text(order, term[1])]
    if sort == "of":
        return [sort, thing_text(term[1])]
    if sort == "plus":
        return [sort, thing_text(term[1]), str(term[2])]
    return [sort, thing_text(term[1]), thing_text(term[2])]
