"""Programs, numbers and assignments by chance, the same ones each time."""

import random

from tests.naive import all_candidates

NAMES = ("a", "b", "c", "d", "e", "f", "g", "h")
LETS = ("u", "v", "w", "x")


class Maker:
    """Makes programs by a row of chances."""

    def __init__(self, seed):
        self.chance = random.Random(seed)
        self.heads = []

    def program(self, functions=3, params=3, depth=5):
        many = self.chance.randint(1, functions)
        for at in range(many):
            kinds = [self.chance.choice(("int", "int", "array")) for _ in range(self.chance.randint(0, params))]
            pairs = tuple((kind[0] + NAMES[place], kind) for place, kind in enumerate(kinds))
            self.heads.append((NAMES[at], pairs))
        bodies = [self.body(self.chance.randint(1, depth), *self.known(pairs)) for _, pairs in self.heads]
        all_functions = tuple(("fun", *head, body) for head, body in zip(self.heads, bodies))
        names = self.chance.sample(range(many), self.chance.randint(1, min(2, many)))
        return ("program", all_functions, tuple((NAMES[f], self.promises(f)) for f in names))

    def known(self, pairs):
        ints = tuple(name for name, kind in pairs if kind == "int")
        return ints, tuple(name for name, kind in pairs if kind == "array")

    def promises(self, f):
        many = len(self.heads[f][1]) + 1
        if many == 1:
            return ()
        return tuple((*self.chance.sample(range(many), 2), self.number()) for _ in range(self.chance.randint(0, 2)))

    def numbers(self, most=3):
        return tuple(sorted(self.chance.sample((-2, -1, 0, 1, 2), self.chance.randint(0, most))))

    def part_of(self, program, numbers, share=0.5):
        """An assignment that has about this share of all candidates."""
        return tuple(
            tuple(tuple(quality for quality in part if self.chance.random() < share) for part in pair)
            for pair in all_candidates(program, numbers)
        )

    def number(self):
        return self.chance.choice((-2, -1, -1, 0, 0, 0, 1, 1, 2))

    def term(self, ints, arrays):
        lot = self.chance.random()
        if lot < 0.2 or not ints + arrays:
            return ("num", self.number())
        if arrays and (lot < 0.4 or not ints):
            return ("len", self.chance.choice(arrays), self.number())
        return ("name", self.chance.choice(ints), self.number())

    def condition(self, ints, arrays):
        word = self.chance.choice(("most", "most", "same"))
        return (word, self.term(ints, arrays), self.term(ints, arrays))

    def body(self, depth, ints, arrays):
        lot = self.chance.random()
        if depth == 1:
            return ("never",) if lot < 0.1 else ("give", self.term(ints, arrays))
        if lot < 0.35:
            bodies = [self.body(depth - 1, ints, arrays) for _ in range(2)]
            return ("if", self.condition(ints, arrays), *bodies)
        if lot < 0.4:
            return ("claim", self.condition(ints, arrays), self.body(depth - 1, ints, arrays))
        if lot < 0.5 and arrays:
            terms = [self.term(ints, arrays) for _ in range(2)]
            return ("put", self.chance.choice(arrays), *terms, self.body(depth - 1, ints, arrays))
        name = self.chance.choice(LETS)
        value = self.value(ints, arrays)
        known = ints if name in ints else ints + (name,)
        return ("let", name, value, self.body(depth - 1, known, arrays))

    def value(self, ints, arrays):
        word = self.chance.choice(("call", "call", "call", "call", "at", "any", "middle", "term"))
        if word == "call":
            name, pairs = self.chance.choice(self.heads)
            if arrays or all(kind == "int" for _, kind in pairs):
                return ("call", name, tuple(self.argument(kind, ints, arrays) for _, kind in pairs))
        if word == "at" and arrays:
            return ("at", self.chance.choice(arrays), self.term(ints, arrays))
        if word == "middle":
            return ("middle", self.term(ints, arrays), self.term(ints, arrays))
        return ("any",) if word == "any" else self.term(ints, arrays)

    def argument(self, kind, ints, arrays):
        return self.term(ints, arrays) if kind == "int" else ("array", self.chance.choice(arrays))
