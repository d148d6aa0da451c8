"""Formulas, their models, and claims on how many they are."""

from sumtalk.checks import TEN_TO_300, check_range, is_whole
from sumtalk.claims import Claim
from sumtalk.errors import BadText, NotFormula, OutOfRange, WrongPlaces
from sumtalk.fields import check_prime
from sumtalk.fillings import check_corner, corners
from sumtalk.forms import MAX_PLACES, constant_form, place_form
from sumtalk.words import check_text, split_words

MAX_WORDS = 24
# How many formulas stand inside a word of each kind but "place".
PARTS = {"true": 0, "false": 0, "not": 1, "and": 2, "or": 2, "xor": 2}
PLACE_WORDS = {"x1": 1, "x2": 2, "x3": 3, "x4": 4, "x5": 5}


def is_word(value):
    """True if a value begins as a formula does; its parts are not looked at."""
    if not isinstance(value, tuple) or len(value) == 0 or not isinstance(value[0], str):
        return False
    if value[0] == "place":
        return len(value) == 2 and is_whole(value[1]) and 1 <= value[1] <= MAX_PLACES
    return value[0] in PARTS and len(value) == 1 + PARTS[value[0]]


def parts_of(formula):
    """The tuple of the formulas that stand directly inside."""
    if formula[0] == "place":
        return ()
    return formula[1:]


def is_formula(value):
    """True if the value is a formula."""
    # Words are counted one by one, so deep values and shared parts come to an end.
    many = 0
    waiting = [value]
    while waiting:
        part = waiting.pop()
        many = many + 1
        if many > MAX_WORDS or not is_word(part):
            return False
        waiting.extend(parts_of(part))
    return True


def check_formula(formula):
    """Raise NotFormula unless the value is a formula."""
    if not is_formula(formula):
        raise NotFormula()


def formulas_in(formula):
    """The list of the formula and all formulas inside it, in prefix order."""
    found = []
    waiting = [formula]
    while waiting:
        part = waiting.pop()
        found.append(part)
        waiting.extend(parts_of(part)[::-1])
    return found


def places_in(formula):
    """The list of the places of all words that name one."""
    return [part[1] for part in formulas_in(formula) if part[0] == "place"]


def word_count(formula):
    """The number of words."""
    check_formula(formula)
    return len(formulas_in(formula))


def highest_place(formula):
    """The highest place, 0 if there is none."""
    check_formula(formula)
    return max(places_in(formula), default=0)


def write_formula(formula):
    """The written form: the words in prefix order."""
    check_formula(formula)
    return " ".join([f"x{part[1]}" if part[0] == "place" else part[0] for part in formulas_in(formula)])


def read_formula(text):
    """The formula whose written form the text is."""
    check_text(text)
    words = split_words(text)
    if len(words) > MAX_WORDS:
        raise BadText()
    # From the last word on, so that the parts of a word are ready ahead of it.
    ready = []
    for word in words[::-1]:
        if word in PLACE_WORDS:
            ready.append(("place", PLACE_WORDS[word]))
        elif word in PARTS and PARTS[word] <= len(ready):
            rest = len(ready) - PARTS[word]
            parts = ready[rest:]
            ready = ready[:rest] + [(word, *parts[::-1])]
        else:
            raise BadText()
    if len(ready) != 1:
        raise BadText()
    return ready[0]


def holds_at(formula, corner):
    """True if a formula that is checked holds at the corner."""
    kind = formula[0]
    if kind == "place":
        return corner[formula[1] - 1] == 1
    parts = [holds_at(part, corner) for part in formula[1:]]
    if kind == "not":
        return not parts[0]
    if kind == "and":
        return parts[0] and parts[1]
    if kind == "or":
        return parts[0] or parts[1]
    if kind == "xor":
        return parts[0] != parts[1]
    return kind == "true"


def holds(formula, corner):
    """True if the formula holds at the corner."""
    highest = highest_place(formula)
    # A corner beyond the bound is never shorter than the highest place.
    if len(corner) < highest:
        raise WrongPlaces()
    check_corner(corner)
    return holds_at(formula, corner)


def check_taken(formula, places):
    """Raise OutOfRange if a checked formula may not be taken in a checked number of places."""
    if places < highest_place(formula):
        raise OutOfRange()


def occurrences(formula, places):
    """The tuple of the numbers of words that name each place."""
    check_formula(formula)
    check_range(places, 0, MAX_PLACES)
    check_taken(formula, places)
    named = places_in(formula)
    return tuple([named.count(place) for place in range(1, places + 1)])


def models(formula, places):
    """The list of the corners at which the formula holds."""
    check_formula(formula)
    check_range(places, 0, MAX_PLACES)
    check_taken(formula, places)
    return [corner for corner in corners(places) if holds_at(formula, corner)]


def form_made(formula, prime, places):
    """The form of a formula that is checked, made part by part."""
    kind = formula[0]
    if kind == "place":
        return place_form(prime, places, formula[1])
    if kind in ("true", "false"):
        return constant_form(prime, places, 1 if kind == "true" else 0)
    parts = [form_made(part, prime, places) for part in formula[1:]]
    if kind == "not":
        return constant_form(prime, places, 1) - parts[0]
    both = parts[0] * parts[1]
    if kind == "and":
        return both
    if kind == "or":
        return parts[0] + parts[1] - both
    return parts[0] + parts[1] - both - both


def formula_form(formula, prime, places):
    """The form with the value 1 at each model and 0 at every other corner."""
    check_formula(formula)
    check_prime(prime)
    check_range(places, 0, MAX_PLACES)
    check_taken(formula, places)
    return form_made(formula, prime, places)


def counting_claim(formula, prime, places, *, count=None):
    """The claim that the formula has so many models modulo the prime; None means the true number."""
    check_formula(formula)
    check_prime(prime)
    check_range(places, 0, MAX_PLACES)
    if count is not None:
        check_range(count, 0, TEN_TO_300)
    told = occurrences(formula, places)
    if count is None:
        total = len(models(formula, places)) % prime
    else:
        total = count % prime
    return Claim(form_made(formula, prime, places), degrees=told, total=total)
