"""What the document says of ages, slices, measures, tables, needed qualities and causes, slowly, word by word."""

import itertools

from tests import naive


def rounds(program, numbers):
    """What g1 says."""
    told = [naive.all_candidates(program, numbers)]
    while True:
        after = naive.after_a_round(program, told[-1])
        if after == told[-1]:
            return tuple(told)
        told.append(after)


def triples(assignment):
    return [(f, part, q) for f, pair in enumerate(assignment) for part in (0, 1) for q in pair[part]]


def less(assignment, gone):
    """The assignment without the triples that are gone."""
    return tuple(
        tuple(tuple(q for q in pair[part] if (f, part, q) not in gone) for part in (0, 1))
        for f, pair in enumerate(assignment)
    )


def names_called(body):
    if body[0] == "let":
        return ({body[2][1]} if body[2][0] == "call" else set()) | names_called(body[3])
    if body[0] == "if":
        return names_called(body[2]) | names_called(body[3])
    return names_called(body[-1]) if body[0] in ("claim", "put") else set()


def calls(program):
    """A set of the pairs (f, g), f calling g."""
    return {
        (f, naive.number_of(program, name))
        for f, function in enumerate(program[1]) for name in names_called(function[3])
    }


def over_any_calls(pairs):
    """The pairs (f, g), g being called from f over any calls."""
    pairs = set(pairs)
    while True:
        more = {(f, h) for (f, g), (k, h) in itertools.product(pairs, pairs) if g == k} | pairs
        if more == pairs:
            return pairs
        pairs = more


def reached(program):
    opens = {naive.number_of(program, name) for name, _ in program[2]}
    return tuple(sorted(opens | {g for f, g in over_any_calls(calls(program)) if f in opens}))


def groups(many, pairs):
    """The greatest sets of numbers that are tied, each by a pair both ways, ordered by their first ones."""
    ties = over_any_calls(pairs)
    sets = {tuple(g for g in range(many) if g == f or ((f, g) in ties and (g, f) in ties)) for f in range(many)}
    return tuple(sorted(sets))


def parts(program):
    pairs = calls(program)
    return groups(len(program[1]), pairs | {(g, f) for f, g in pairs})


def rings(program):
    pairs = calls(program)
    loops = over_any_calls(pairs)
    return tuple(ring for ring in groups(len(program[1]), pairs) if (ring[0], ring[0]) in loops)


def is_less(facts, many, own, other, terms):
    """Whether the measure other with its terms is less than the measure own, which is at least 0 (m1)."""
    sums = naive.least_sums(facts, many)
    if sums is None:
        return True
    (i, j), (u, v) = own, other
    if sums[j, i] is None or sums[j, i] > 0:
        return False
    (first, a), (second, b) = terms[u], terms[v]
    above, below = sums[first, i], sums[j, second]
    return above is not None and below is not None and (above + a) + (below - b) <= -1


def descends(program, assignment, rank):
    """What m1 says."""
    home = {f: ring for ring in rings(program) for f in ring}
    for f, function in enumerate(program[1]):
        for items, many in naive.paths_of(function):
            for at, item in enumerate(items):
                if item[0] == "call" and naive.number_of(program, item[1]) in home.get(f, ()):
                    facts = naive.facts_ahead(program, f, items, at, assignment)
                    g = naive.number_of(program, item[1])
                    if not is_less(facts, many, rank[f], rank[g], [(0, 0), *item[2]]):
                        return False
    return True


def pairs_of(program, f):
    return list(itertools.product(range(len(program[1][f][2]) + 1), repeat=2))


def rank_of(program, numbers):
    """What m3 says, ring by ring; the rows of the other rings do not take part."""
    kept = naive.strongest_of(program, naive.all_candidates(program, numbers))
    rank = [(0, 0)] * len(program[1])
    for ring in rings(program):
        for row in itertools.product(*[pairs_of(program, f) for f in ring]):
            for f, pair in zip(ring, row):
                rank[f] = pair
            if descends_in(program, kept, rank, ring):
                break
        else:
            return None
    return tuple(rank)


def descends_in(program, assignment, rank, ring):
    for f in ring:
        for items, many in naive.paths_of(program[1][f]):
            for at, item in enumerate(items):
                if item[0] == "call" and naive.number_of(program, item[1]) in ring:
                    facts = naive.facts_ahead(program, f, items, at, assignment)
                    g = naive.number_of(program, item[1])
                    if not is_less(facts, many, rank[f], rank[g], [(0, 0), *item[2]]):
                        return False
    return True


def parts_of(things):
    return [part for many in range(len(things) + 1) for part in itertools.combinations(things, many)]


def table(things, is_let):
    """What l1 says, is_let telling for each part whether the program is let with it."""
    every = parts_of(things)
    let = {part: is_let(part) for part in every}
    least = [part for part in every if let[part]
             and not any(let[other] for other in every if set(other) < set(part))]
    greatest = [part for part in every if not let[part]
                and all(let[other] for other in every if set(other) > set(part))]
    return tuple(sorted(least)), tuple(sorted(greatest))


def is_let(program, numbers):
    kept = naive.strongest_of(program, naive.all_candidates(program, numbers))
    return naive.holds_at_looks(program, kept)


def with_promises(program, pairs):
    """The program with those promises alone that are told as pairs (open, index)."""
    opens = tuple(
        (name, tuple(promise for at, promise in enumerate(promises) if (place, at) in pairs))
        for place, (name, promises) in enumerate(program[2])
    )
    return (*program[:2], opens)


def needed(program, numbers):
    """What l4 says."""
    left = naive.strongest_of(program, naive.all_candidates(program, numbers))
    for triple in triples(left):
        fewer = less(left, {triple})
        if naive.holds_at_looks(program, naive.strongest_of(program, fewer)):
            left = fewer
    return left


def stand_behind(program, numbers, falls):
    """The candidates that have not fallen, behind some falls."""
    gone = {(f, ("pre", "post").index(part), quality) for _, f, part, quality, _, _, _ in falls}
    return less(naive.all_candidates(program, numbers), gone)


def has_values(program, numbers, ahead, row):
    """Whether there are values for a fall or a look, behind the falls ahead of it."""
    left = stand_behind(program, numbers, ahead)
    path, item = row[-3:-1]
    if path == ():
        place = [naive.number_of(program, name) for name, _ in program[2]].index(row[1])
        return naive.follow(naive.facts_of_open(program, place), [row[3]], 6) == [False]
    items, many = naive.paths_of(program[1][path[0]])[path[1]]
    if row[0] == "look":
        due = items[item][1:]
    else:
        _, f, part, quality, _, _, _ = row
        one = less(left, {triple for triple in triples(left) if triple != (f, ("pre", "post").index(part), quality)})
        (due,) = naive.dues_of(program, path[0], items[item], one)
    facts = naive.facts_ahead(program, path[0], items, item, left)
    return naive.follow(facts, [due], many) == [False]


def can_be_left_out(program, numbers, rows, at):
    """Whether there are values for each row behind the one at this place, without this one (l5)."""
    left = [*rows[:at], *rows[at + 1:]]
    return all(has_values(program, numbers, left[:place], left[place]) for place in range(at, len(left)))
