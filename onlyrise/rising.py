"""Rising papers made, and what is told of a program that has none."""

from onlyrise.doing import done
from onlyrise.risechecker import askings, clashes, is_reason, pair_at, pairs_of
from onlyrise.standings import all_lifted, is_over
from onlyrise.things import with_each
from onlyrise.trees import cases_of, ground_of, leaves_of, named_rule, sources_of


def leasts(program, case, i, j):
    leaves = leaves_of(named_rule(program, case))
    low = all_lifted(ground_of(program), (), askings(leaves[i][0], True))
    return (low, all_lifted(ground_of(program), low, askings(leaves[j][0], True)))


def falls(program, case, low, high):
    ground = ground_of(program)
    if not is_over(ground, high, low):
        return False
    return not is_over(ground, done(program, high, case), done(program, low, case))


def rising(program):
    paper = tuple([entries_of(program, k) for k in range(len(program[2]))])
    gaps = gaps_in(program, paper)
    if len(gaps) == 0:
        return ("rises", paper)
    for k, i, j in gaps:
        for case in [case for case in cases_of(program) if case[0] == k]:
            standings = leasts(program, case, i, j)
            if falls(program, case, standings[0], standings[1]):
                return ("falls", case, standings[0], standings[1])
    return ("open",) + gaps[0]


def entries_of(program, k):
    # None stands in the place of an entry where there is none.
    return tuple([entry_for(pair_at(program, k, i, j)) for i, j in pairs_of(program[2][k])])


def gaps_in(program, paper):
    found = []
    for k, rule in enumerate(program[2]):
        found.extend([(k,) + pair for pair, entry in zip(pairs_of(rule), paper[k]) if entry is None])
    return found


def entry_for(pair):
    for side in (0, 1):
        for n in range(len(pair.nos[side])):
            if clashes(pair, side, n):
                return ("clash", side, n)
    reasons = [reason_for(pair, put) for put in pair.puts[0]]
    return None if None in reasons else ("covers", tuple(reasons))


def reason_for(pair, put):
    for reason in reasons_by_kind(pair, put[1]):
        if is_reason(pair, put, reason):
            return reason
    return None


def reasons_by_kind(pair, term):
    choices = [()]
    for source in sources_of(term):
        choices = with_each(choices, places_of(pair, source))
    likes = [("like", m) for m in range(len(pair.puts[1]))]
    return [("just",), ("own",)] + likes + [("under", bounds) for bounds in choices]


def places_of(pair, thing):
    found = []
    for side in (0, 1):
        found.extend([(side, n) for n, asking in enumerate(pair.nos[side]) if asking[0] == thing])
    return found
