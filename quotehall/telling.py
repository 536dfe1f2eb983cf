"""What programs tell, and the pieces that they make."""

from quotehall.errors import TooGreat, WrongKind
from quotehall.kinds import kind_of

RECKONED_BY = 1000003
MOST_TERMS = 2000
DEEPEST = 30


def told(term):
    """The number that a program tells."""
    refuse_unless("number", term)
    return Telling().value_of(term)


def made(term):
    """The piece that a program makes."""
    refuse_unless("piece", term)
    return Telling().value_of(term).term


def plain_of(term):
    """The value of a term of level 1 that has no holes and no loose names."""
    return Telling().value_of(term)


def refuse_unless(kind, term):
    """Refuses a program that is wrong, or of another kind than this one."""
    if kind_of(term) != kind:
        raise WrongKind(f"the program is no {kind}")


class Piece:
    """A term of level 1 without holes, with its size and its depth, which are asked too often to be counted anew."""

    def __init__(self, term, size, depth):
        self.term = term
        self.size = size
        self.depth = depth


class Telling:
    """One asking: the steps that are yet to be done, the next one last, and the values that were found for them.

    Functions within functions lead much deeper than Python's own calls may go; hence the list of steps. A step is a
    function of this telling, of a term (or another thing) that it is about, and of what the names in force mean: a
    value; a function, as its def and what the names round that mean; or, at level 1, a new name.
    """

    def __init__(self):
        self.steps = []
        self.found = []
        self.named = 0

    def value_of(self, term):
        """The value of a term in which no name is loose: a number or a Piece."""
        self.tell(term, {})
        while self.steps:
            step, about, names = self.steps.pop()
            step(self, about, names)
        return self.found.pop()

    def later(self, step, about, names):
        """Keeps a step, to be done behind all those that are kept after it."""
        self.steps.append((step, about, names))

    def tell(self, term, names):
        """Next, the value of a term is to be found."""
        step = TELLERS[term[0]]
        self.later(step, term, names)

    def make(self, term, names):
        """Next, the piece of a term within a quote is to be found."""
        step = MAKERS[term[0]]
        self.later(step, term, names)

    def make_of(self, head, parts):
        """Next, pieces of parts are to be found, each with its names, and put behind a head."""
        self.later(put_together, head, len(parts))
        for part, names in reversed(parts):
            self.make(part, names)

    def new_name(self):
        """A name that this asking has not given yet."""
        self.named += 1
        return f"v{self.named}"


def tell_num(telling, term, names):
    """The value of a num."""
    telling.found.append(term[1] % RECKONED_BY)


def tell_name(telling, term, names):
    """The value of a name."""
    telling.found.append(names[term[1]])


def tell_two(telling, term, names):
    """The value of a sum, product or less."""
    telling.later(reckon, term[0], names)
    telling.tell(term[2], names)
    telling.tell(term[1], names)


def reckon(telling, word, names):
    """Puts one value in the place of two."""
    right = telling.found.pop()
    left = telling.found.pop()
    if word == "sum":
        telling.found.append((left + right) % RECKONED_BY)
    elif word == "product":
        telling.found.append(left * right % RECKONED_BY)
    else:
        telling.found.append(1 if left < right else 0)


def tell_when(telling, term, names):
    """The value of a when."""
    telling.later(choose, term, names)
    telling.tell(term[1], names)


def choose(telling, term, names):
    """Goes on with one of a when's two, behind its c."""
    if telling.found.pop() != 0:
        telling.tell(term[2], names)
    else:
        telling.tell(term[3], names)


def tell_let(telling, term, names):
    """The value of a let."""
    telling.later(go_on_with_b, term, names)
    telling.tell(term[2], names)


def go_on_with_b(telling, term, names):
    """Goes on with a let's b, behind its a."""
    telling.tell(term[3], {**names, term[1]: telling.found.pop()})


def tell_turns(telling, term, names):
    """The value of a turns."""
    telling.later(turn, (term, term[1]), names)
    telling.tell(term[3], names)


def turn(telling, about, names):
    """Goes on with a turns' b, behind its a or b, so many times more."""
    term, many = about
    if many > 0:
        telling.later(turn, (term, many - 1), names)
        telling.tell(term[4], {**names, term[2]: telling.found.pop()})


def tell_def(telling, term, names):
    """The value of a def."""
    telling.tell(term[5], {**names, term[1]: (term, names)})


def tell_use(telling, term, names):
    """The value of a use."""
    definition, names_there = names[term[1]]
    telling.later(go_on_with_function, definition, names_there)
    telling.tell(term[2], names)


def go_on_with_function(telling, definition, names):
    """Goes on with the a of a def, behind the a of a use."""
    telling.tell(definition[4], {**names, definition[2]: telling.found.pop()})


def tell_quote(telling, term, names):
    """The value of a quote."""
    telling.later(refuse_too_great, term, names)
    telling.make(term[1], names)


def refuse_too_great(telling, term, names):
    """Refuses what a quote has made where it is too great."""
    piece = telling.found[-1]
    if piece.size > MOST_TERMS:
        raise TooGreat(f"a piece of {piece.size} terms")
    if piece.depth > DEEPEST:
        raise TooGreat(f"a piece {piece.depth} deep")


def tell_lift(telling, term, names):
    """The value of a lift."""
    telling.later(make_num, term, names)
    telling.tell(term[1], names)


def make_num(telling, term, names):
    """Puts a piece in the place of a number."""
    telling.found.append(Piece(("num", telling.found.pop()), 1, 1))


def tell_run(telling, term, names):
    """The value of a run."""
    telling.later(go_on_with_piece, term, names)
    telling.tell(term[1], names)


def go_on_with_piece(telling, term, names):
    """Goes on with the piece that is run."""
    telling.tell(telling.found.pop().term, {})


def make_same(telling, term, names):
    """The piece of a num is the num as it is written."""
    telling.found.append(Piece(term, 1, 1))


def make_name(telling, term, names):
    """The piece of a name is the name that its binder was given."""
    telling.found.append(Piece(("name", names[term[1]]), 1, 1))


def make_plain(telling, term, names):
    """The piece of a term that is a word with parts."""
    telling.make_of((term[0],), [(part, names) for part in term[1:]])


def make_let(telling, term, names):
    """The piece of a let."""
    new = telling.new_name()
    telling.make_of(("let", new), [(term[2], names), (term[3], {**names, term[1]: new})])


def make_turns(telling, term, names):
    """The piece of a turns."""
    new = telling.new_name()
    telling.make_of(("turns", term[1], new), [(term[3], names), (term[4], {**names, term[2]: new})])


def make_def(telling, term, names):
    """The piece of a def."""
    function = telling.new_name()
    value = telling.new_name()
    parts = [(term[4], {**names, term[2]: value}), (term[5], {**names, term[1]: function})]
    telling.make_of(("def", function, value, term[3]), parts)


def make_use(telling, term, names):
    """The piece of a use."""
    telling.make_of(("use", names[term[1]]), [(term[2], names)])


def fill_hole(telling, term, names):
    """The piece of a hole is the one that fills it."""
    telling.tell(term[1], names)


def put_together(telling, head, many):
    """Puts one piece in the place of the last so many, which are its parts."""
    start = len(telling.found) - many
    parts = telling.found[start:]
    del telling.found[start:]
    size = 1 + sum([part.size for part in parts])
    depth = 1 + max([part.depth for part in parts])
    terms = [part.term for part in parts]
    telling.found.append(Piece((*head, *terms), size, depth))


TELLERS = {
    "num": tell_num,
    "name": tell_name,
    "sum": tell_two,
    "product": tell_two,
    "less": tell_two,
    "when": tell_when,
    "let": tell_let,
    "turns": tell_turns,
    "def": tell_def,
    "use": tell_use,
    "quote": tell_quote,
    "lift": tell_lift,
    "run": tell_run,
}

MAKERS = {
    "num": make_same,
    "name": make_name,
    "sum": make_plain,
    "product": make_plain,
    "less": make_plain,
    "when": make_plain,
    "let": make_let,
    "turns": make_turns,
    "def": make_def,
    "use": make_use,
    "hole": fill_hole,
}
