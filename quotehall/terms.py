"""Terms: how many there are in one, how deep it is, what is loose in it, and what it is with all quotes taken out."""

# Where in the tuple of each word the parts begin. Ahead of them stands the head: the word, names, numbers and kinds.
PARTS_AT = {
    "num": 2,
    "name": 2,
    "sum": 1,
    "product": 1,
    "less": 1,
    "when": 1,
    "let": 2,
    "turns": 3,
    "def": 4,
    "use": 2,
    "quote": 1,
    "hole": 1,
    "lift": 1,
    "run": 1,
}

TAKEN_OUT = ("quote", "hole", "lift", "run")


def size_of(term):
    """How many terms stand in a term, itself too, each as often as it stands there."""
    sizes = []
    for _, places in rows_of(term):
        sizes.append(1 + sum([sizes[place] for place in places]))
    return sizes[-1]


def depth_of(term):
    """How deep a term is: a num or a name is one deep, a term one deeper than its deepest part."""
    depths = []
    for _, places in rows_of(term):
        depths.append(1 + max([depths[place] for place in places], default=0))
    return depths[-1]


def loose_in(term):
    """The names that mean no binder within a term, each once, in the order in which they stand there."""
    return loose_in_rows(rows_of(term))[-1]


def bare(term):
    """A term with its quotes, holes, lifts and runs taken out, and with defs of numbers alone."""
    terms = []
    for head, places in rows_of(term):
        terms.append(bare_term(head, [terms[place] for place in places]))
    return terms[-1]


def loose_in_rows(rows):
    """For each row the names that are loose in its term."""
    loose = []
    for head, places in rows:
        loose.append(loose_names(head, [loose[place] for place in places]))
    return loose


def loose_names(head, loose_in_parts):
    """The names loose in a term with this head, from the lists of those that are loose in its parts."""
    found = {}
    if head[0] == "name" or head[0] == "use":
        found[head[1]] = True
    for names, bound in zip(loose_in_parts, bound_in_parts(head, len(loose_in_parts))):
        for name in names:
            if name != bound:
                found[name] = True
    return list(found)


def bound_in_parts(head, many):
    """For each of the parts that follow a head the name that the head binds there, or None."""
    if head[0] == "let":
        return [None, head[1]]
    if head[0] == "turns":
        return [None, head[2]]
    if head[0] == "def":
        return [head[2], head[1]]
    return [None] * many


def bare_term(head, parts):
    """The bare term of a term with this head and with parts that are bare by now."""
    if head[0] in TAKEN_OUT:
        return parts[0]
    if head[0] == "def":
        return ("def", head[1], head[2], "number", *parts)
    return (*head, *parts)


def head_of(term):
    """What a term is made of besides its parts."""
    return term[:PARTS_AT[term[0]]]


def parts_of(term):
    """The terms that stand straight within a term, from the left."""
    return term[PARTS_AT[term[0]]:]


def rows_of(term):
    """The unlike terms in a term, parts ahead of wholes and itself last, each as a row.

    A row is a head and the places of the parts among the rows. A term thirty deep may stand in itself half a
    billion times over; like terms have one row, so that whoever goes along the rows comes by each but once.
    """
    table = TermTable()
    table.place_of(term)
    return table.rows


class TermTable:
    """The rows of the terms that it was asked for, and of all terms in them."""

    def __init__(self):
        self.rows = []
        self.known = {}

    def place_of(self, term):
        """The place of a term's row among the rows, which is added if it is not there."""
        alike = self.known.setdefault(ends_of(term), [])
        for other, place in alike:
            if other == term:
                return place
        places = [self.place_of(part) for part in parts_of(term)]
        self.rows.append((head_of(term), places))
        alike.append((term, len(self.rows) - 1))
        return len(self.rows) - 1


def ends_of(term):
    """A short key that like terms share and unlike ones seldom do.

    A whole term is no key: it would be gone through anew each time, however often its parts stand in it.
    """
    return (edge_of(term, 0), edge_of(term, -1))


def edge_of(term, side):
    """The heads on one side of a term, 0 for the left and -1 for the right, all the way down."""
    heads = [head_of(term)]
    parts = parts_of(term)
    while parts:
        heads.append(head_of(parts[side]))
        parts = parts_of(parts[side])
    return tuple(heads)
