"""Programs to ask of: some that are right, and the same with something changed in them."""

import random

from tests import plain_terms

NAMES = ("x", "y", "v", "num", "let", "quote", "abcdefgh")
NUMS = (0, 1, 2, 3, 5, -1, -7, 1000002, 1000003, 1000004, 10 ** 25, -10 ** 25)
KINDS = ("number", "piece")


class Maker:
    """Makes terms that fit where they stand. names maps each name in force to what the package's Around maps it to."""

    def __init__(self, seed):
        self.rng = random.Random(seed)

    def program(self, kind, deep):
        return self.term(kind, 0, deep, {}, False)

    def term(self, kind, level, deep, names, barred):
        words = self.words(kind, level, deep, names, barred)
        word = self.rng.choice(words)
        return getattr(self, "some_" + word, self.some_plain)(word, kind, level, deep - 1, names, barred)

    def words(self, kind, level, deep, names, barred):
        """The words that may stand here, likelier ones more often."""
        values = [name for name in names if names[name] == ("value", level, kind)]
        uses = [name for name in names if names[name][:2] == ("function", level) and names[name][3] == kind]
        words = ["name"] * 3 if values else []
        if kind == "number":
            words += ["num"]
        if deep <= 1:
            return words or ["quote"]
        words += ["when", "let", "let", "turns", "def", "def"]
        if uses:
            words += ["use"] * 4
        if kind == "number":
            words += ["sum", "product", "less"]
        if level == 1:
            words += ["hole"] * 4
        elif kind == "piece":
            words += ["quote"] * 5 + ["lift"]
        elif not barred:
            words += ["run"] * 4
        return words

    def some_num(self, word, kind, level, deep, names, barred):
        return (word, self.rng.choice(NUMS))

    def some_name(self, word, kind, level, deep, names, barred):
        return (word, self.rng.choice([name for name in names if names[name] == ("value", level, kind)]))

    def some_plain(self, word, kind, level, deep, names, barred):
        return (word, self.term("number", level, deep, names, barred), self.term("number", level, deep, names, barred))

    def some_when(self, word, kind, level, deep, names, barred):
        return (word, self.term("number", level, deep, names, barred), self.term(kind, level, deep, names, barred),
                self.term(kind, level, deep, names, barred))

    def some_let(self, word, kind, level, deep, names, barred):
        name, inner = self.rng.choice(NAMES), self.some_kind(level)
        return (word, name, self.term(inner, level, deep, names, barred),
                self.term(kind, level, deep, {**names, name: ("value", level, inner)}, barred))

    def some_turns(self, word, kind, level, deep, names, barred):
        name = self.rng.choice(NAMES)
        return (word, self.rng.choice((0, 1, 1, 2, 3)), name, self.term(kind, level, deep, names, barred),
                self.term(kind, level, deep, {**names, name: ("value", level, kind)}, barred))

    def some_def(self, word, kind, level, deep, names, barred):
        name, value = self.rng.choice(NAMES), self.rng.choice(NAMES)
        wanted, inner = self.some_kind(level), self.some_kind(level)
        return (word, name, value, wanted,
                self.term(inner, level, deep, {**names, value: ("value", level, wanted)}, True),
                self.term(kind, level, deep, {**names, name: ("function", level, wanted, inner)}, barred))

    def some_use(self, word, kind, level, deep, names, barred):
        fit = [name for name in names if names[name][:2] == ("function", level) and names[name][3] == kind]
        name = self.rng.choice(fit)
        return (word, name, self.term(names[name][2], level, deep, names, barred))

    def some_quote(self, word, kind, level, deep, names, barred):
        return (word, self.term("number", 1, deep, names, True))

    def some_hole(self, word, kind, level, deep, names, barred):
        return (word, self.term("piece", 0, deep, names, True))

    def some_lift(self, word, kind, level, deep, names, barred):
        return (word, self.term("number", level, deep, names, barred))

    def some_run(self, word, kind, level, deep, names, barred):
        return (word, self.term("piece", level, deep, names, barred))

    def some_kind(self, level):
        return "number" if level == 1 else self.rng.choice(KINDS)

    def changed(self, term):
        """The term with one thing in it changed, so that it may be wrong."""
        parts = plain_terms.parts(term)
        if parts and self.rng.random() < 0.8:
            at = self.rng.randrange(len(parts))
            part = self.changed(parts[at])
            return term[:plain_terms.PARTS_AT[term[0]]] + parts[:at] + (part,) + parts[at + 1:]
        return self.changed_here(term, parts)

    def changed_here(self, term, parts):
        word = term[0]
        way = self.rng.randrange(4)
        if way == 0 and word in ("name", "let", "use", "def"):
            return (word, self.rng.choice(NAMES)) + term[2:]
        if way == 1 and word in ("quote", "hole", "lift", "run"):
            return (self.rng.choice(("quote", "hole", "lift", "run")),) + parts
        if way == 1 and word == "def":
            return term[:3] + (self.rng.choice(KINDS),) + parts
        if way == 2:
            return (self.rng.choice(("quote", "hole", "lift", "run")), term)
        if way == 3 and parts:
            return parts[0]
        return self.rng.choice((("name", self.rng.choice(NAMES)), ("use", self.rng.choice(NAMES), term),
                                ("quote", ("num", 1)), ("num", 1)))


def right_programs(kind, many, deep, seed):
    """The same programs of a kind each time that it is asked."""
    maker = Maker(seed)
    return [maker.program(kind, deep) for _ in range(many)]


def changed_programs(many, deep, seed):
    """The same programs each time, in which one to three things have been changed."""
    maker = Maker(seed)
    programs = []
    for count in range(many):
        program = maker.program(KINDS[count % 2], deep)
        for _ in range(1 + count % 3):
            program = maker.changed(program)
        programs.append(program)
    return programs
