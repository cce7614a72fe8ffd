"""What the document says of facts, paths, assignments and papers, word by word, slowly, and without the package."""

import itertools


def is_chain(facts, fact, thing):
    """What q2 says of chains."""
    i, j, c = fact
    if thing == ():
        return i == j and c >= 0
    ends = [facts[at][:2] for at in thing]
    linked = all(ahead[1] == behind[0] for ahead, behind in zip(ends, ends[1:]))
    return linked and ends[0][0] == i and ends[-1][1] == j and sum(facts[at][2] for at in thing) <= c


def is_round(facts, thing):
    if thing == ():
        return False
    home = facts[thing[0]][0]
    return is_chain(facts, (home, home, -1), thing)


def is_proof(facts, fact, thing):
    if type(thing) is not tuple or not all(type(at) is int and 0 <= at < len(facts) for at in thing):
        return False
    return is_chain(facts, fact, thing) or is_round(facts, thing)


def least_sums(facts, many):
    """The least sum of a way between each two unknowns (None without a way), or None if the facts clash."""
    sums = {(i, j): 0 if i == j else None for i in range(many) for j in range(many)}
    for i, j, c in facts:
        if sums[i, j] is None or c < sums[i, j]:
            sums[i, j] = c
    for k, i, j in itertools.product(range(many), repeat=3):
        if sums[i, k] is not None and sums[k, j] is not None:
            over = sums[i, k] + sums[k, j]
            if sums[i, j] is None or over < sums[i, j]:
                sums[i, j] = over
    if any(sums[i, i] < 0 for i in range(many)):
        return None
    return sums


def follow(facts, dues, many):
    """For each due whether it follows from the facts."""
    sums = least_sums(facts, many)
    return [sums is None or (sums[i, j] is not None and sums[i, j] <= c) for i, j, c in dues]


def paths_of(function):
    """What w1 to w3 say: a list of pairs (path, how many unknowns)."""
    _, _, params, body = function
    known = {}
    items = ()
    for name, kind in params:
        known[name] = (len(known) + 1, 0)
        if kind == "array":
            items += (("fact", 0, len(known), 0),)
    return ways_on(body, known, len(params) + 1, items)


def term_of(known, term):
    if term[0] == "num":
        return 0, term[1]
    unknown, number = known[term[1]]
    return unknown, number + (0 if term[0] == "array" else term[2])


def most(word, s, t, more=0):
    """The item that s is at most t and more."""
    return (word, s[0], t[0], t[1] + more - s[1])


def ways_on(body, known, new, items):
    word = body[0]
    if word == "give":
        return [(items + (("give", *term_of(known, body[1])),), new)]
    if word == "never":
        return [(items + (("look", 0, 0, -1),), new)]
    if word == "let":
        return ways_on_let(body, known, new, items)
    if word == "put":
        at = term_of(known, body[2])
        items += (most("look", (0, 0), at), most("look", at, known[body[1]], -1))
        return ways_on(body[4], known, new, items)
    kind, s, t = body[1][0], term_of(known, body[1][1]), term_of(known, body[1][2])
    if word == "claim":
        items += (most("look", s, t),) + ((most("look", t, s),) if kind == "same" else ())
        return ways_on(body[2], known, new, items)
    if kind == "most":
        return (ways_on(body[2], known, new, items + (most("fact", s, t),))
                + ways_on(body[3], known, new, items + (most("fact", t, s, -1),)))
    return (ways_on(body[2], known, new, items + (most("fact", s, t), most("fact", t, s)))
            + ways_on(body[3], known, new, items + (most("fact", s, t, -1),))
            + ways_on(body[3], known, new, items + (most("fact", t, s, -1),)))


def ways_on_let(body, known, new, items):
    _, x, e, inner = body
    if e[0] in ("num", "name", "len"):
        return ways_on(inner, {**known, x: term_of(known, e)}, new, items)
    if e[0] == "at":
        at = term_of(known, e[2])
        items += (most("look", (0, 0), at), most("look", at, known[e[1]], -1))
    if e[0] == "call":
        items += (("call", e[1], tuple(term_of(known, argument) for argument in e[2]), new),)
    if e[0] == "middle":
        s, t = term_of(known, e[1]), term_of(known, e[2])
        items += (most("look", s, t), most("fact", s, (new, 0)), most("fact", (new, 0), t))
    return ways_on(inner, {**known, x: (new, 0)}, new + 1, items)


def number_of(program, name):
    return [function[1] for function in program[1]].index(name)


def all_candidates(program, numbers):
    def qualities(many):
        pairs = itertools.permutations(range(many), 2)
        return tuple(sorted((i, j, c) for i, j in pairs for c in numbers))

    return tuple((qualities(len(params) + 1), qualities(len(params) + 2)) for _, _, params, _ in program[1])


def as_fact(quality, terms):
    i, j, c = quality
    (u, a), (v, b) = terms[i], terms[j]
    return (u, v, c + b - a)


def facts_ahead(program, f, items, item, assignment):
    facts = list(assignment[f][0])
    for ahead in items[:item]:
        if ahead[0] in ("fact", "look"):
            facts.append(ahead[1:])
        if ahead[0] == "call":
            terms = [(0, 0), *ahead[2], (ahead[3], 0)]
            facts.extend(as_fact(quality, terms) for quality in assignment[number_of(program, ahead[1])][1])
    return tuple(facts)


def dues_of(program, f, item, assignment):
    if item[0] == "look":
        return (item[1:],)
    if item[0] == "call":
        return tuple(as_fact(quality, [(0, 0), *item[2]]) for quality in assignment[number_of(program, item[1])][0])
    if item[0] == "give":
        terms = [(place, 0) for place in range(len(program[1][f][2]) + 1)] + [item[1:]]
        return tuple(as_fact(quality, terms) for quality in assignment[f][1])
    return ()


def facts_of_open(program, place):
    name, promises = program[2][place]
    params = program[1][number_of(program, name)][2]
    return promises + tuple((0, at + 1, 0) for at, (_, kind) in enumerate(params) if kind == "array")


def after_a_round(program, assignment):
    """The qualities of an assignment that follow wherever they must with the facts that it gives (g1)."""
    left = [[list(pre), list(post)] for pre, post in assignment]
    for place, (name, _) in enumerate(program[2]):
        f = number_of(program, name)
        keep_following(left[f][0], assignment[f][0], follow(facts_of_open(program, place), assignment[f][0], 6))
    for f, function in enumerate(program[1]):
        for items, many in paths_of(function):
            for at, item in enumerate(items):
                if item[0] in ("call", "give"):
                    owner, part = (f, 1) if item[0] == "give" else (number_of(program, item[1]), 0)
                    facts = facts_ahead(program, f, items, at, assignment)
                    shown = follow(facts, dues_of(program, f, item, assignment), many)
                    keep_following(left[owner][part], assignment[owner][part], shown)
    return tuple((tuple(pre), tuple(post)) for pre, post in left)


def keep_following(left, qualities, shown):
    for quality, follows in zip(qualities, shown):
        if not follows and quality in left:
            left.remove(quality)


def strongest_of(program, assignment):
    while True:
        after = after_a_round(program, assignment)
        if after == assignment:
            return assignment
        assignment = after


def keeps(program, assignment):
    return after_a_round(program, assignment) == assignment


def holds_at_looks(program, assignment):
    for f, function in enumerate(program[1]):
        for items, many in paths_of(function):
            for at, item in enumerate(items):
                facts = facts_ahead(program, f, items, at, assignment)
                if item[0] == "look" and follow(facts, [item[1:]], many) != [True]:
                    return False
    return True


def is_paper(program, numbers, thing):
    """What j1 and j2 say."""
    if type(thing) is not tuple or len(thing) != 3 or type(thing[0]) is not str:
        return False
    if thing[0] == "let":
        return is_assignment(program, numbers, thing[1]) and is_proved(program, thing[1], thing[2])
    return thing[0] == "refused" and is_refused(program, numbers, thing[1], thing[2])


def are(thing, many):
    return type(thing) is tuple and len(thing) == many


def is_assignment(program, numbers, thing):
    if not are(thing, len(program[1])) or not all(are(pair, 2) for pair in thing):
        return False
    for pair, every in zip(thing, all_candidates(program, numbers)):
        for part, right in zip(pair, every):
            if type(part) is not tuple or not all(is_one_of(quality, right) for quality in part):
                return False
            if list(part) != sorted(set(part)):
                return False
    return True


def is_one_of(quality, right):
    return are(quality, 3) and all(type(number) is int for number in quality) and quality in right


def is_proved(program, assignment, thing):
    if not are(thing, 2) or not are(thing[0], len(program[1])) or not are(thing[1], len(program[2])):
        return False
    for f, function in enumerate(program[1]):
        rows = paths_of(function)
        if not are(thing[0][f], len(rows)):
            return False
        for (items, _), proofs in zip(rows, thing[0][f]):
            asked = [(facts_ahead(program, f, items, at, assignment), due)
                     for at, item in enumerate(items) for due in dues_of(program, f, item, assignment)]
            if not are(proofs, len(asked)) or not all(is_proof(*ask, proof) for ask, proof in zip(asked, proofs)):
                return False
    for place, (name, _) in enumerate(program[2]):
        pre = assignment[number_of(program, name)][0]
        facts = facts_of_open(program, place)
        if not are(thing[1][place], len(pre)):
            return False
        if not all(is_proof(facts, quality, gift) for quality, gift in zip(pre, thing[1][place])):
            return False
    return True


def is_refused(program, numbers, falls, look):
    left = [[list(pre), list(post)] for pre, post in all_candidates(program, numbers)]
    if type(falls) is not tuple:
        return False
    for fall in falls:
        if not are(fall, 7) or fall[0] != "fall":
            return False
        _, f, part, quality, path, item, values = fall
        if type(f) is not int or not 0 <= f < len(left) or type(part) is not str or part not in ("pre", "post"):
            return False
        part = ("pre", "post").index(part)
        if not is_one_of(quality, left[f][part]) or not falls_there(program, left, f, part, quality, path, item, values):
            return False
        left[f][part].remove(quality)
    if not are(look, 4) or look[0] != "look" or not is_place(program, look[1], look[2]):
        return False
    _, (g, number), item, values = look
    items, many = paths_of(program[1][g])[number]
    facts = facts_ahead(program, g, items, item, left)
    return items[item][0] == "look" and are_against(facts, items[item][1:], many, values)


def falls_there(program, left, f, part, quality, path, item, values):
    if type(path) is tuple and path == ():
        opens = [at for at, (name, _) in enumerate(program[2]) if number_of(program, name) == f]
        if part != 0 or type(item) is not int or item != -1 or opens == []:
            return False
        return are_against(facts_of_open(program, opens[0]), quality, len(program[1][f][2]) + 1, values)
    if not is_place(program, path, item):
        return False
    g, number = path
    items, many = paths_of(program[1][g])[number]
    word = items[item][0]
    if part == 0 and (word != "call" or number_of(program, items[item][1]) != f):
        return False
    if part == 1 and (word != "give" or f != g):
        return False
    dues = dues_of(program, g, items[item], left)
    due = dues[left[f][part].index(quality)]
    return are_against(facts_ahead(program, g, items, item, left), due, many, values)


def is_place(program, path, item):
    if not are(path, 2) or not all(type(number) is int for number in (*path, item)):
        return False
    g, number = path
    if not 0 <= g < len(program[1]) or not 0 <= number < len(paths_of(program[1][g])):
        return False
    return 0 <= item < len(paths_of(program[1][g])[number][0])


def are_against(facts, due, many, values):
    if not are(values, many) or not all(type(value) is int for value in values) or values[0] != 0:
        return False
    i, j, c = due
    return all(values[u] <= values[v] + b for u, v, b in facts) and not values[i] <= values[j] + c
