"""Points [53] to [58] and the entry sumtalk/formulas.py."""

import itertools

from sumtalk import formulas
from sumtalk.claims import Claim
from sumtalk.counts import share_of
from sumtalk.errors import BadText, NotFormula, OutOfRange, TooLarge, WrongPlaces
from sumtalk.formulas import (counting_claim, formula_form, highest_place, holds, is_formula, models, occurrences,
                              read_formula, word_count, write_formula)
from sumtalk.forms import Form, constant_form, place_form
from sumtalk.tellers import Honest
from helper import Case, NO_TEXTS, HUGE, OTHER_KINDS

TRUE, FALSE = ("true",), ("false",)
X1, X2, X3, X4, X5 = [("place", k) for k in range(1, 6)]


def negated(formula, times):
    for _ in range(times):
        formula = ("not", formula)
    return formula


def joined(kind, parts):
    """The parts, joined from the left."""
    formula = parts[0]
    for part in parts[1:]:
        formula = (kind, formula, part)
    return formula


def balanced(kinds, parts):
    """The parts, joined two by two, by the kinds in turn."""
    at = 0
    while len(parts) > 1:
        row = []
        for left, right in zip(parts[::2], parts[1::2]):
            row.append((kinds[at % len(kinds)], left, right))
            at += 1
        parts = row + parts[len(row) * 2:]
    return parts[0]


SMALL = [TRUE, FALSE, X1, X2, X5, ("not", TRUE), ("not", X1), ("not", ("not", X3)), ("and", X1, X2), ("or", X1, X2),
         ("xor", X1, X2), ("and", X1, X1), ("or", X1, X1), ("xor", X1, X1), ("and", TRUE, X2), ("or", FALSE, X2),
         ("xor", TRUE, X2), ("and", X1, ("not", X2)), ("or", ("and", X1, X2), ("not", ("xor", X1, X3))),
         ("xor", ("or", X1, ("not", X2)), ("and", X4, ("xor", X5, X2))), ("and", X1, ("not", X1)),
         ("or", X4, ("not", X4))]
LARGE = [joined("and", [X1] * 12), joined("or", [X2] * 12), joined("xor", [X1, X2, X3, X4, X5] * 2), negated(X5, 23),
         negated(TRUE, 23), ("not", joined("xor", [X3] * 12)),
         joined("or", [X1, X1, X2, X2, X3, X3, X4, X4, X4, X5, X5, X5]),
         balanced(["or"], [X1, X1, X2, X2, X3, X3, X4, X4, X4, X5, X5, X5]),
         balanced(["or", "xor", "and"], [X1, X2, X3, X4, X5, X1, X2, X3, X4, X5, X1, X2]),
         balanced(["xor", "or"], [X5, X4, X3, X2, X1, X5, X4, X3, X2, X1, X5])]


def plain_holds(formula, corner):
    """Whether a formula holds, computed with numbers."""
    kind, *parts = formula
    if kind == "place":
        return corner[parts[0] - 1]
    values = [plain_holds(part, corner) for part in parts]
    return {"true": lambda: 1, "false": lambda: 0, "not": lambda: 1 - values[0], "and": lambda: values[0] * values[1],
            "or": lambda: max(values), "xor": lambda: (values[0] + values[1]) % 2}[kind]()


def plain_words(formula):
    """The words in prefix order."""
    kind, *parts = formula
    if kind == "place":
        return [f"x{parts[0]}"]
    return [kind] + [word for part in parts for word in plain_words(part)]


def plain_form(formula, prime, places):
    """The form, part by part."""
    kind, *parts = formula
    if kind == "place":
        return place_form(prime, places, parts[0])
    if not parts:
        return constant_form(prime, places, int(kind == "true"))
    made = [plain_form(part, prime, places) for part in parts]
    if kind == "not":
        return constant_form(prime, places, 1) - made[0]
    product = made[0] * made[1]
    return {"and": product, "or": made[0] + made[1] - product,
            "xor": made[0] + made[1] - product.scale(2 % prime)}[kind]


def highest(formula):
    return max([int(word[1:]) for word in plain_words(formula) if word[0] == "x" and word != "xor"], default=0)


def deep(times):
    """A value nested as deep as told."""
    value = TRUE
    for _ in range(times):
        value = ("not", value)
    return value


def shared(times):
    """A formula that shares its parts, of 2 to the power times words."""
    value = X1
    for _ in range(times):
        value = ("and", value, value)
    return value


WRONG = [(), ("true", 1), ("false", TRUE), ("not",), ("not", TRUE, TRUE), ("and", TRUE), ("or", TRUE, TRUE, TRUE),
         ("xor",), ("place",), ("place", 0), ("place", 6), ("place", -1), ("place", True), ("place", "1"),
         ("place", None), ("place", 1.0), ("place", 1, 1), ("place", 10 ** 400), ("place", X1), ("x1",), ("True",),
         ("nand", X1, X2), ("",), (1,), (None,), (("true",),), ((), X1), "true", "x1", "", 1, None, True, b"true",
         {"true": 1}, {1}, 1.5, object(), ["true"], ["place", 1], [("true",)], ("not", ["true"]), ("not", "true"),
         ("not", ()), ("and", X1, ["place", 2]), ("and", ["place", 1], X2), ("and", X1, None),
         ("not", ("not", ("not", ["place", 1]))), ("or", X1, ("and", X1)),
         (["not"], X1), ({}, X1), negated(TRUE, 24), ("and", joined("or", [X1] * 12), TRUE), shared(5), shared(200),
         deep(100000), ["not", deep(5)], ("not", [deep(100000)])]


class Formulas(Case):
    def test_is_formula(self):
        self.same(formulas.MAX_WORDS, 24)
        for formula in SMALL + LARGE:
            self.same(is_formula(value=formula), True)
        for value in WRONG:
            self.same(is_formula(value), False)

    def test_number_of_words(self):
        for formula, words in ((negated(TRUE, 23), 24), (("not", joined("xor", [X3] * 12)), 24), (shared(3), 15),
                               (("and", shared(3), negated(X1, 7)), 24)):
            self.same(is_formula(formula), True)
            self.same(word_count(formula), words)
        for formula in (negated(TRUE, 24), ("not", ("not", joined("xor", [X3] * 12))), shared(4),
                        ("and", shared(3), negated(X1, 8)), joined("xor", [X3] * 13)):
            self.same(is_formula(formula), False)

    def test_what_is_no_formula(self):
        for value in WRONG:
            for call in (word_count, highest_place, write_formula, lambda it: holds(it, ["wrong"] * 6),
                         lambda it: occurrences(it, 6), lambda it: models(it, 6), lambda it: formula_form(it, 4, 6),
                         lambda it: counting_claim(it, 4, 6, count=-1)):
                self.error(NotFormula, call, value)

    def test_word_count_and_highest_place(self):
        for formula in SMALL + LARGE:
            self.same(word_count(formula=formula), len(plain_words(formula)))
            self.same(highest_place(formula=formula), highest(formula))
        self.same(highest_place(TRUE), 0)
        self.same(highest_place(("and", X2, X1)), 2)

    def test_things_are_defined_in_their_places(self):
        for thing in (counting_claim, formula_form, highest_place, holds, is_formula, models, occurrences, read_formula,
                      word_count, write_formula):
            self.same(thing.__module__, "sumtalk.formulas")
            self.assertIs(getattr(formulas, thing.__name__), thing)


class Texts(Case):
    def test_text(self):
        self.same(write_formula(("and", X1, ("not", X2))), "and x1 not x2")
        for formula in SMALL + LARGE:
            self.same(write_formula(formula=formula), " ".join(plain_words(formula)))

    def test_read_back(self):
        for formula in SMALL + LARGE:
            self.same(read_formula(text=" ".join(plain_words(formula))), formula)
        self.same(read_formula("and x1 not x2"), ("and", ("place", 1), ("not", ("place", 2))))
        self.same(read_formula("xor or x1 x2 x3"), ("xor", ("or", X1, X2), X3))
        self.same(read_formula("xor x1 or x2 x3"), ("xor", X1, ("or", X2, X3)))

    def test_texts_that_differ_in_one_place(self):
        for text in ("true", "x5", "and x1 not x2", "xor or x1 x2 and false not x5"):
            self.reads_its_own(read_formula, write_formula, text)

    def test_bad_texts(self):
        for text in ("", " ", "x0", "x6", "x", "x10", "X1", "x01", "x1 ", " x1", "x1 x2", "x1\n", "\nx1", "not", "and",
                     "and x1", "and x1 x2 x3", "not x1 x2", "not  x1", "not\nx1", "x1 not", "x1 and x2", "or x1 or x2",
                     "true false", "True", "place 1", "place", "nand x1 x2", "1", "-", "(x1)", "and x1,x2", "not not",
                     "not not not x1 x1", "xor x1 x2 xor", " ".join(["not"] * 24 + ["x1"]), " ".join(["x1"] * 24),
                     " ".join(["and"] * 12 + ["x1"] * 13), " ".join(["not"] * 4000 + ["x1"]), "not " * 6000 + "x1"):
            with self.subTest(text[:20]):
                self.error(BadText, read_formula, text)
        self.same(read_formula(" ".join(["not"] * 23 + ["x1"])), negated(X1, 23))
        for value in NO_TEXTS + (X1, TRUE):
            self.error(BadText, read_formula, value)


class Models(Case):
    def test_holds(self):
        for formula in SMALL + LARGE:
            for places in range(highest(formula), 6):
                for corner in itertools.product((0, 1), repeat=places):
                    expected = plain_holds(formula, corner) == 1
                    self.same(holds(formula, corner), expected)
                    self.same(holds(formula=formula, corner=list(corner)), expected)
        self.keeps(lambda corner: holds(X2, corner), [0, 1])
        self.same(holds(TRUE, []), True)
        self.same(holds(FALSE, ()), False)

    def test_wrong_corners(self):
        for corner in ([0] * 6, ["wrong"] * 6, [0] * 99):
            self.error(TooLarge, holds, X1, corner)
        for corner in ([], [0], [0, 1], ["wrong"] * 2):
            self.error(WrongPlaces, holds, X3, corner)
        for wrong in (-1, 2) + HUGE + OTHER_KINDS:
            self.error(OutOfRange, holds, X1, [wrong])
            self.error(OutOfRange, holds, X1, [1, 0, wrong])
            self.error(OutOfRange, holds, TRUE, [wrong])

    def test_models(self):
        for formula in SMALL + LARGE:
            for places in range(highest(formula), 6):
                corners = itertools.product((0, 1), repeat=places)
                self.same(models(formula=formula, places=places),
                          [corner for corner in corners if plain_holds(formula, corner)])
        self.same(models(TRUE, 0), [()])
        self.same(models(FALSE, 0), [])
        self.new_list(models, X1, 2)

    def test_occurrences(self):
        for formula in SMALL + LARGE:
            for places in range(highest(formula), 6):
                expected = tuple(plain_words(formula).count(f"x{k}") for k in range(1, places + 1))
                self.same(occurrences(formula=formula, places=places), expected)
        self.same(occurrences(joined("and", [X1] * 12), 2), (12, 0))
        self.same(occurrences(TRUE, 0), ())

    def test_wrong_places(self):
        for call in (lambda it, places: occurrences(it, places), lambda it, places: models(it, places),
                     lambda it, places: formula_form(it, 5, places), lambda it, places: counting_claim(it, 5, places)):
            self.no_range(0, 5, lambda places: call(TRUE, places))
            for formula in (X1, X3, X5, ("and", X2, X5), ("not", X4)):
                self.no_range(highest(formula), 5, lambda places: call(formula, places))


class Claims(Case):
    def test_forms(self):
        for prime in (2, 3, 5, 101):
            for formula in SMALL + LARGE:
                for places in (highest(formula), 5):
                    form = formula_form(formula=formula, prime=prime, places=places)
                    self.assertEqual(form, plain_form(formula, prime, places))
                    for corner in itertools.product((0, 1), repeat=places):
                        self.same(form.at(corner), plain_holds(formula, corner))

    def test_forms_are_made_formally(self):
        self.same(formula_form(("and", X1, X1), 5, 1).text(), "5 1 1:2")
        self.same(formula_form(("or", X1, X1), 5, 1).text(), "5 1 2:1 4:2")
        self.same(formula_form(("xor", X1, X1), 5, 1).text(), "5 1 2:1 3:2")
        self.same(formula_form(("xor", X1, X1), 2, 1).text(), "2 1")
        self.same(formula_form(("not", X2), 5, 2).text(), "5 2 1:0.0 4:0.1")
        self.same(formula_form(FALSE, 5, 2).text(), "5 2")
        self.same(formula_form(TRUE, 5, 0).text(), "5 0 1:-")
        self.same(formula_form(joined("and", [X1] * 12), 2, 1).text(), "2 1 1:12")

    def test_wrong_primes(self):
        self.no_prime(lambda prime: formula_form(X5, prime, 6))
        self.no_prime(lambda prime: counting_claim(X5, prime, 6, count=-1))

    def test_counting_claims(self):
        for prime in (2, 3, 5, 101):
            for formula in SMALL + LARGE:
                for places in (highest(formula), 5):
                    corners = itertools.product((0, 1), repeat=places)
                    true_count = sum(plain_holds(formula, corner) for corner in corners)
                    for count in (None, 0, 1, true_count, true_count + prime, 33, 10 ** 300 - 1, 10 ** 300):
                        claim = counting_claim(formula, prime, places, count=count)
                        self.assertIsInstance(claim, Claim)
                        self.assertEqual(claim.form, formula_form(formula, prime, places))
                        self.same(claim.degrees, occurrences(formula, places))
                        told = true_count if count is None else count
                        self.same(claim.total, told % prime)
                        self.same(claim.is_true(), (told - true_count) % prime == 0)
                    self.assertEqual(counting_claim(formula, prime, places), counting_claim(formula, prime, places,
                                                                                            count=true_count))
        self.same(counting_claim(formula=("or", X1, X2), prime=5, places=2, count=4).text(),
                  "5 2 1:0.1 1:1.0 4:1.1 | 4 1.1")
        self.assertRaises(TypeError, counting_claim, X1, 5, 1, 1)

    def test_told_degrees_are_the_occurrences(self):
        # The two places cancel, so the form's own degree is less.
        claim = counting_claim(("xor", X1, X1), 2, 1)
        self.same((claim.form.degrees, claim.degrees), ((0,), (2,)))

    def test_wrong_counts(self):
        for wrong in (-1, 10 ** 300 + 1, 10 ** 301) + HUGE + tuple(kind for kind in OTHER_KINDS if kind is not None):
            self.error(OutOfRange, counting_claim, X1, 5, 1, count=wrong)
            self.error(OutOfRange, counting_claim, X1, 2, 0, count=wrong)

    def test_talks_on_models(self):
        for formula in SMALL:
            claim = counting_claim(formula, 3, max(highest(formula), 1))
            self.same(share_of(claim, Honest(claim)).text(), "1/1")
            self.same(claim.form.places, max(highest(formula), 1))
        self.assertEqual(counting_claim(("and", X1, X2), 3, 2).form, Form(3, 2, [((1, 1), 1)]))
