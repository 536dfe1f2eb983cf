import unittest

from quotehall import terms
from quotehall.terms import bare, depth_of, loose_in, size_of
from tests import plain_terms

ONE = ("num", 1)
TWO = ("num", 2)
X = ("name", "x")
Y = ("name", "y")
Z = ("name", "z")
TWENTY_DIGITS = 12345678901234567890

# Each word of point 2 at least once: a term, its size, its depth, its loose names and what it is when it is bare.
SAMPLES = (
    (ONE, 1, 1, [], ONE),
    (("num", 0), 1, 1, [], ("num", 0)),
    (("num", -5), 1, 1, [], ("num", -5)),
    (("num", TWENTY_DIGITS), 1, 1, [], ("num", TWENTY_DIGITS)),
    (("num", -TWENTY_DIGITS), 1, 1, [], ("num", -TWENTY_DIGITS)),
    (X, 1, 1, ["x"], X),
    (("name", "abcdefgh"), 1, 1, ["abcdefgh"], ("name", "abcdefgh")),
    (("sum", Y, X), 3, 2, ["y", "x"], ("sum", Y, X)),
    (("product", Y, ("sum", ONE, X)), 5, 3, ["y", "x"], ("product", Y, ("sum", ONE, X))),
    (("less", ("sum", Y, ONE), X), 5, 3, ["y", "x"], ("less", ("sum", Y, ONE), X)),
    (("when", Z, ("sum", ONE, Y), X), 6, 3, ["z", "y", "x"], ("when", Z, ("sum", ONE, Y), X)),
    (("when", ONE, TWO, ONE), 4, 2, [], ("when", ONE, TWO, ONE)),
    (("let", "x", Y, ("sum", X, Z)), 5, 3, ["y", "z"], ("let", "x", Y, ("sum", X, Z))),
    (("turns", 9, "x", Y, ("sum", X, Z)), 5, 3, ["y", "z"], ("turns", 9, "x", Y, ("sum", X, Z))),
    (("turns", 0, "x", ONE, TWO), 3, 2, [], ("turns", 0, "x", ONE, TWO)),
    (("def", "f", "x", "number", X, ("use", "f", ONE)), 4, 3, [],
     ("def", "f", "x", "number", X, ("use", "f", ONE))),
    (("def", "f", "x", "piece", ("quote", ("hole", X)), ("use", "f", ("quote", ONE))), 7, 4, [],
     ("def", "f", "x", "number", X, ("use", "f", ONE))),
    (("use", "f", ONE), 2, 2, ["f"], ("use", "f", ONE)),
    (("quote", X), 2, 2, ["x"], X),
    (("hole", X), 2, 2, ["x"], X),
    (("lift", X), 2, 2, ["x"], X),
    (("run", X), 2, 2, ["x"], X),
    (("run", ("quote", ("hole", ("lift", ("sum", ONE, X))))), 7, 6, ["x"], ("sum", ONE, X)),
)

PAIRS = ("sum", "product", "less")


def chain(word, deep):
    """A term that is so deep and has one part at each step, or a num and one part."""
    term = X
    for _ in range(deep - 1):
        term = (word, ONE, term) if word in PAIRS else (word, term)
    return term


def doubled(head, term, deep):
    """A term that is so many deeper than the given one, and is both parts of what is one deeper."""
    for _ in range(deep):
        term = (*head, term, term)
    return term


def ladder(deep):
    """Two unlike terms that stand each in both of the next two, so many deep."""
    left, right = ("name", "a"), ("num", -1)
    for _ in range(deep - 1):
        left, right = ("sum", left, right), ("let", "b", left, right)
    return left


class SamplesTest(unittest.TestCase):
    def test_size(self):
        for term, size, _, _, _ in SAMPLES:
            with self.subTest(term=term):
                self.assertEqual(size_of(term), size)

    def test_depth(self):
        for term, _, depth, _, _ in SAMPLES:
            with self.subTest(term=term):
                self.assertEqual(depth_of(term), depth)

    def test_loose(self):
        for term, _, _, loose, _ in SAMPLES:
            with self.subTest(term=term):
                self.assertEqual(loose_in(term), loose)

    def test_bare(self):
        for term, _, _, _, without in SAMPLES:
            with self.subTest(term=term):
                self.assertEqual(bare(term), without)

    def test_every_word_is_sampled(self):
        words = {term[0] for term, _, _, _, _ in SAMPLES}
        self.assertEqual(words, set(plain_terms.PARTS_AT))

    def test_kinds_of_values(self):
        for term, _, _, _, _ in SAMPLES:
            self.assertIs(type(size_of(term)), int)
            self.assertIs(type(depth_of(term)), int)
            self.assertIs(type(loose_in(term)), list)
            self.assertIs(type(bare(term)), tuple)

    def test_the_interface_stands_in_its_file(self):
        for function in (size_of, depth_of, loose_in, bare):
            self.assertEqual(function.__module__, terms.__name__)


class SizeAndDepthTest(unittest.TestCase):
    def test_a_term_counts_each_time_that_it_stands_there(self):
        both = ("product", X, ONE)
        self.assertEqual(size_of(("sum", both, both)), 7)
        self.assertEqual(size_of(("when", both, both, ("quote", both))), 11)
        self.assertEqual(depth_of(("when", both, both, ("quote", both))), 4)

    def test_like_terms_that_are_made_anew_count_too(self):
        self.assertEqual(size_of(("sum", ("sum", ("num", 1), X), ("sum", ("num", 1), X))), 7)

    def test_the_deepest_part_counts_wherever_it_stands(self):
        deep = ("lift", ("lift", ONE))
        self.assertEqual(depth_of(("when", deep, ONE, ONE)), 4)
        self.assertEqual(depth_of(("when", ONE, deep, ONE)), 4)
        self.assertEqual(depth_of(("when", ONE, ONE, deep)), 4)
        self.assertEqual(depth_of(("let", "x", deep, ONE)), 4)
        self.assertEqual(depth_of(("turns", 3, "x", ONE, deep)), 4)
        self.assertEqual(depth_of(("def", "f", "x", "piece", deep, ONE)), 4)
        self.assertEqual(depth_of(("def", "f", "x", "piece", ONE, deep)), 4)

    def test_thirty_deep(self):
        for word in ("quote", "hole", "lift", "run"):
            self.assertEqual((size_of(chain(word, 30)), depth_of(chain(word, 30))), (30, 30))
        for word in PAIRS:
            self.assertEqual((size_of(chain(word, 30)), depth_of(chain(word, 30))), (59, 30))

    def test_somewhat_deeper_is_no_error(self):
        self.assertEqual((size_of(chain("run", 60)), depth_of(chain("run", 60))), (60, 60))
        self.assertEqual(loose_in(chain("run", 60)), ["x"])
        self.assertEqual(bare(chain("run", 60)), X)

    def test_thirty_deep_and_in_itself_very_often(self):
        for head in (("sum",), ("let", "x"), ("turns", 2, "x"), ("def", "f", "x", "piece")):
            with self.subTest(head=head):
                term = doubled(head, ONE, 29)
                self.assertEqual(size_of(term), 2 ** 30 - 1)
                self.assertEqual(depth_of(term), 30)

    def test_thirty_deep_and_crosswise(self):
        self.assertEqual(size_of(ladder(30)), 2 ** 30 - 1)
        self.assertEqual(depth_of(ladder(30)), 30)

    def test_many_unlike_terms_between_the_same_ends(self):
        rows = [("when", ONE, ("num", k), TWO) for k in range(64)]
        while len(rows) > 1:
            rows = [("sum", rows[k], rows[k + 1]) for k in range(0, len(rows), 2)]
        self.assertEqual(size_of(rows[0]), 64 * 4 + 63)
        self.assertEqual(bare(rows[0]), rows[0])


class LooseTest(unittest.TestCase):
    def test_each_once_in_the_order_from_the_left(self):
        term = ("sum", ("sum", Z, X), ("when", X, Y, Z))
        self.assertEqual(loose_in(term), ["z", "x", "y"])

    def test_a_let_binds_in_b_and_not_in_a(self):
        self.assertEqual(loose_in(("let", "x", X, ONE)), ["x"])
        self.assertEqual(loose_in(("let", "x", ONE, X)), [])
        self.assertEqual(loose_in(("let", "x", X, X)), ["x"])

    def test_turns_binds_in_b_and_not_in_a(self):
        self.assertEqual(loose_in(("turns", 3, "x", X, ONE)), ["x"])
        self.assertEqual(loose_in(("turns", 3, "x", ONE, X)), [])
        self.assertEqual(loose_in(("turns", 3, "x", X, X)), ["x"])

    def test_a_def_binds_x_in_a_and_f_in_b(self):
        for kind in ("number", "piece"):
            self.assertEqual(loose_in(("def", "f", "x", kind, X, ONE)), [])
            self.assertEqual(loose_in(("def", "f", "x", kind, ONE, X)), ["x"])
            self.assertEqual(loose_in(("def", "f", "x", kind, ONE, ("use", "f", ONE))), [])
            self.assertEqual(loose_in(("def", "f", "x", kind, ("use", "f", ONE), ONE)), ["f"])
            self.assertEqual(loose_in(("def", "f", "x", kind, ("use", "f", X), ("use", "f", X))), ["f", "x"])

    def test_x_and_f_of_one_def_with_the_same_name(self):
        self.assertEqual(loose_in(("def", "f", "f", "number", ("name", "f"), ("use", "f", ONE))), [])
        self.assertEqual(loose_in(("def", "f", "f", "number", ("use", "f", ONE), ("name", "f"))), [])
        self.assertEqual(loose_in(("def", "f", "f", "number", ("use", "x", ONE), ("name", "y"))), ["x", "y"])

    def test_a_name_bound_here_and_loose_further_right(self):
        term = ("sum", ("let", "x", Y, X), ("sum", Z, X))
        self.assertEqual(loose_in(term), ["y", "z", "x"])

    def test_a_binder_that_hides_another(self):
        self.assertEqual(loose_in(("let", "x", ONE, ("let", "x", X, X))), [])
        self.assertEqual(loose_in(("let", "x", X, ("let", "x", X, X))), ["x"])
        self.assertEqual(loose_in(("sum", ("let", "x", ONE, ("turns", 2, "x", X, X)), X)), ["x"])

    def test_values_and_functions_are_looked_for_alike(self):
        self.assertEqual(loose_in(("let", "f", ONE, ("use", "f", ONE))), [])
        self.assertEqual(loose_in(("def", "f", "x", "number", ONE, ("name", "f"))), [])
        self.assertEqual(loose_in(("def", "f", "x", "number", ("use", "x", ONE), ONE)), [])
        self.assertEqual(loose_in(("sum", ("use", "f", ("name", "f")), ("name", "f"))), ["f"])

    def test_the_f_of_a_use_comes_ahead_of_its_a(self):
        self.assertEqual(loose_in(("use", "f", ("use", "g", X))), ["f", "g", "x"])

    def test_levels_do_not_matter(self):
        self.assertEqual(loose_in(("let", "x", ONE, ("quote", ("sum", X, ("hole", Y))))), ["y"])
        self.assertEqual(loose_in(("quote", ("let", "x", ONE, ("hole", ("run", X))))), [])

    def test_names_may_be_words(self):
        self.assertEqual(loose_in(("sum", ("name", "num"), ("name", "let"))), ["num", "let"])
        self.assertEqual(loose_in(("let", "let", ("name", "let"), ("name", "let"))), ["let"])
        self.assertEqual(loose_in(("def", "use", "name", "number", ("name", "name"), ("use", "use", ONE))), [])
        self.assertEqual(bare(("use", "quote", ("name", "hole"))), ("use", "quote", ("name", "hole")))

    def test_a_term_that_is_bound_here_and_loose_there(self):
        both = ("sum", X, ("use", "f", Y))
        term = ("let", "x", both, ("let", "f", both, ("let", "y", both, both)))
        self.assertEqual(loose_in(term), ["x", "f", "y"])
        self.assertEqual(loose_in(("let", "x", ONE, ("let", "f", both, both))), ["f", "y"])

    def test_thirty_deep(self):
        self.assertEqual(loose_in(doubled(("sum",), ("use", "f", X), 28)), ["f", "x"])
        self.assertEqual(loose_in(doubled(("let", "x"), X, 29)), ["x"])
        self.assertEqual(loose_in(ladder(30)), ["a"])
        inner = X
        for _ in range(29):
            inner = ("let", "y", Y, inner)
        self.assertEqual(loose_in(inner), ["y", "x"])


class BareTest(unittest.TestCase):
    def test_what_holds_other_things_than_parts_keeps_them(self):
        term = ("turns", 7, "x", ("run", X), ("lift", ("let", "y", ("hole", ONE), ("quote", Y))))
        self.assertEqual(bare(term), ("turns", 7, "x", X, ("let", "y", ONE, Y)))

    def test_one_within_another_is_taken_out_whole(self):
        term = ONE
        for word in ("quote", "hole", "lift", "run", "run", "quote"):
            term = (word, term)
        self.assertEqual(bare(("sum", term, term)), ("sum", ONE, ONE))

    def test_kinds_of_defs_wherever_they_stand(self):
        def piece(kind, deeper):
            return ("def", "f", "x", kind, deeper, ("use", "f", ONE))

        self.assertEqual(bare(piece("piece", X)), piece("number", X))
        self.assertEqual(bare(piece("number", X)), piece("number", X))
        self.assertEqual(bare(("sum", ONE, piece("piece", piece("piece", X)))),
                         ("sum", ONE, piece("number", piece("number", X))))

    def test_what_is_bare_stays_as_it_is(self):
        for term, _, _, _, without in SAMPLES:
            self.assertEqual(bare(without), without)

    def test_thirty_deep(self):
        for word in ("quote", "hole", "lift", "run"):
            self.assertEqual(bare(chain(word, 30)), X)
        for word in PAIRS:
            self.assertEqual(bare(chain(word, 30)), chain(word, 30))

    def test_thirty_deep_and_in_itself_very_often(self):
        term = ("sum", ("quote", doubled(("def", "f", "x", "piece"), ONE, 27)), ONE)
        without = bare(term)
        self.assertEqual(size_of(without), 2 ** 28 + 1)
        self.assertEqual(without[2], ONE)
        # Down one side: written out whole, in a failure's message, the term would fill the memory.
        without = without[1]
        for side in [4, 5] * 13 + [4]:
            self.assertEqual(without[:4], ("def", "f", "x", "number"))
            without = without[side]
        self.assertEqual(without, ONE)


class AskedTest(unittest.TestCase):
    """What is handed in, what is told, and asking again."""

    def test_what_is_handed_in_is_unchanged(self):
        for ask in (size_of, depth_of, loose_in, bare):
            for term, _, _, _, _ in SAMPLES:
                before = repr(term)
                ask(term)
                self.assertEqual(repr(term), before)

    def test_asked_again_it_tells_the_same(self):
        for ask in (size_of, depth_of, loose_in, bare):
            first = [ask(term) for term, _, _, _, _ in SAMPLES]
            again = [ask(term) for term, _, _, _, _ in SAMPLES]
            self.assertEqual(first, again)

    def test_a_list_that_was_told_is_the_askers_own(self):
        for term in (X, ("sum", X, Y), ("let", "x", Y, ONE), ("use", "f", X), ONE):
            told = loose_in(term)
            kept = list(told)
            told.append("z")
            told.reverse()
            self.assertEqual(loose_in(term), kept)
            loose_in(term).clear()
            self.assertEqual(loose_in(term), kept)

    def test_as_a_plainer_way_tells_it(self):
        for term in plain_terms.some_terms(600, 7):
            with self.subTest(term=term):
                self.assertEqual(size_of(term), plain_terms.size(term))
                self.assertEqual(depth_of(term), plain_terms.depth(term))
                self.assertEqual(loose_in(term), plain_terms.loose(term))
                self.assertEqual(bare(term), plain_terms.bare(term))


if __name__ == "__main__":
    unittest.main()
