"""Least sets: which numbers and promises are enough, which qualities are needed, and refused papers that are short."""

from claimfall.assignments import candidates, triples_of, unproved, without
from claimfall.errors import BadState, TooGreat
from claimfall.falling import Falling, fallen, is_let_within, strongest
from claimfall.papers import judge, paper
from claimfall.shapes import is_number, is_row
from claimfall.shortening import Shortening

MOST_PROMISES = 7


def number_table(program, numbers):
    """Return the pair (least, greatest) of the parts of numbers with which a program is let, and is not let."""
    kept = strongest(program, numbers)
    triples = triples_of(kept)

    def is_enough(part):
        # What is kept with fewer numbers is kept with more, so it stands within this.
        left = without(kept, [triple for triple in triples if triple[2][2] not in part])
        return is_let_within(program, left)

    return _table(numbers, is_enough)


def promise_table(program, numbers, place):
    """Return the pair (least, greatest) of the parts of the promises of an open, as tuples of their indices."""
    found = _promise_table(program, numbers, _promises(program, place))
    least, greatest = [tuple([tuple([at for _, at in part]) for part in parts]) for parts in found]
    return least, greatest


def all_promises_table(program, numbers):
    """Return the pair (least, greatest) of the parts of all promises, as tuples of pairs (open, index)."""
    pairs = []
    for place in range(len(program[2])):
        pairs.extend(_promises(program, place))
    if len(pairs) > MOST_PROMISES:
        raise TooGreat("there are too many promises")
    return _promise_table(program, numbers, pairs)


def table_paper(program, numbers):
    """Return the table paper with the parts of the table of numbers."""
    least, greatest = number_table(program, numbers)
    lets = tuple([(part, paper(program, part)) for part in least])
    return ("table", lets, tuple([(part, paper(program, part)) for part in greatest]))


def judge_table(program, numbers, thing):
    """Tell whether a thing is a table paper."""
    if not is_row(thing, 3) or thing[0] != "table":
        return False
    _, lets, refusals = thing
    if not _are_rows(program, numbers, "let", lets) or not _are_rows(program, numbers, "refused", refusals):
        return False
    return all([
        any([_is_within(less, part) for less, _ in lets]) or any([_is_within(part, more) for more, _ in refusals])
        for part in _parts_of(numbers)
    ])


def needed(program, numbers):
    """Return the assignment of the needed qualities; raise BadState if the program is not let."""
    falling = Falling(program, candidates(program, numbers))
    falling.run()
    if not falling.holding:
        raise BadState("the program is not let")
    triples = triples_of(falling.standing.assignment())
    at = 0
    many = 1
    while at < len(triples):
        # To leave out several at once comes to the same as one by one: if all can go, each can behind the others.
        if falling.leave_out(triples[at:at + many]):
            at += many
            many *= 2
        elif many > 1:
            many //= 2
        else:
            at += 1
    return falling.standing.assignment()


def short(program, numbers):
    """Return a refused paper without a fall that can be left out; raise BadState if the program is let."""
    kept, falls = fallen(program, candidates(program, numbers))
    wrong = unproved(program, kept, ("look",))
    if wrong is None:
        raise BadState("the program is let")
    f, number, item = wrong
    steps = Shortening(program, numbers).shortened(falls, None, (f, number), item)
    look = steps.pop()
    return ("refused", tuple([step.fall() for step in steps]), ("look", (f, number), item, look.shown))


def _table(things, is_enough):
    """Return the least parts of some things that are enough, and the greatest that are not; more is enough, too."""
    parts = _parts_of(things)
    known = {}
    for part in _outer_first(parts):
        if part not in known:
            enough = is_enough(part)
            alike = [other for other in parts if (_is_within(part, other) if enough else _is_within(other, part))]
            for other in alike:
                known[other] = enough
    least = [part for part in parts if known[part] and not any([known[less] for less in _one_less(parts, part)])]
    greatest = [part for part in parts if not known[part] and all([known[more] for more in _one_more(parts, part)])]
    return tuple(sorted(least)), tuple(sorted(greatest))


def _outer_first(parts):
    """List parts by turns from the smallest and from the greatest ones on: these decide most of the other ones."""
    ascending = sorted(parts, key=len)
    descending = sorted(parts, key=len, reverse=True)
    found = []
    for small, great in zip(ascending, descending):
        found.extend([small, great])
    return found


def _one_less(parts, part):
    return [other for other in parts if len(other) == len(part) - 1 and _is_within(other, part)]


def _one_more(parts, part):
    return [other for other in parts if len(other) == len(part) + 1 and _is_within(part, other)]


def _parts_of(things):
    """List all parts of some things, tuples in the order of the things."""
    parts = [()]
    for thing in things:
        parts = [*parts, *[(*part, thing) for part in parts]]
    return parts


def _is_within(less, more):
    return all([thing in more for thing in less])


def _promises(program, place):
    return [(place, at) for at in range(len(program[2][place][1]))]


def _promise_table(program, numbers, pairs):
    """Return the table of some promises, pairs (open, index), all else staying."""
    kept = strongest(program, numbers)

    def is_enough(part):
        fewer = _without_promises(program, [pair for pair in pairs if pair not in part])
        # What is kept with fewer promises is kept with more, so it stands within this.
        return is_let_within(fewer, kept)

    return _table(pairs, is_enough)


def _without_promises(program, gone):
    _, functions, opens = program
    return ("program", functions, tuple([
        (name, tuple([promise for at, promise in enumerate(promises) if (place, at) not in gone]))
        for place, (name, promises) in enumerate(opens)
    ]))


def _are_rows(program, numbers, word, thing):
    """Tell whether a thing is a tuple of pairs of a part of the numbers and a paper of this word with it."""
    if not isinstance(thing, tuple):
        return False
    return all([
        is_row(row, 2) and _is_part(numbers, row[0]) and is_row(row[1], 3) and row[1][0] == word
        and judge(program, row[0], row[1])
        for row in thing
    ])


def _is_part(numbers, thing):
    if not isinstance(thing, tuple) or not all([is_number(number) and number in numbers for number in thing]):
        return False
    return all([ahead < number for ahead, number in zip(thing, thing[1:])])
