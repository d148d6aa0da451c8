"""Forms: polynomials in several places."""

from sumtalk.checks import check_at_most, check_field, check_length, check_number, check_numbers, check_range
from sumtalk.errors import BadText, TalkError, TooLarge, WrongPlaces
from sumtalk.fields import check_prime
from sumtalk.polys import MAX_COEFFICIENTS, Poly, constant
from sumtalk.words import check_text, check_written, read_number, read_numbers, split_words, write_numbers

MAX_PLACES = 5
MAX_DEGREE = 12
MAX_TERMS = 1024
MAX_PRODUCTS = 10000


def check_term(prime, places, exponents, coefficient):
    """Check the parts of a term as it is passed."""
    check_length(exponents, places)
    for exponent in exponents:
        check_range(exponent, 0, MAX_DEGREE)
    check_number(prime, coefficient)


def added_terms(prime, pairs):
    """The terms of a sum of pairs (exponents, coefficient), in order and without zeros."""
    sums = {}
    for exponents, coefficient in pairs:
        sums[exponents] = (sums.get(exponents, 0) + coefficient) % prime
    return tuple([(exponents, sums[exponents]) for exponents in sorted(sums) if sums[exponents] != 0])


def check_alike(form, other):
    """Check that two forms have one prime and one number of places."""
    check_field(form.prime, other)
    if form.places != other.places:
        raise WrongPlaces()


def weighted_form(forms, numbers):
    """The sum of forms in the same places, each times its weight; only the sum itself may be too large."""
    pairs = [(exponents, number * coefficient) for form, number in zip(forms, numbers)
             for exponents, coefficient in form.terms]
    return Form(forms[0].prime, forms[0].places, added_terms(forms[0].prime, pairs))


def added_forms(form, other, sign):
    """The form plus sign times the other one."""
    check_alike(form, other)
    return weighted_form([form, other], [1, sign])


def powers_of(one, factor, degree):
    """The list of the powers of a polynomial, from power 0, which is one, to the degree."""
    powers = [one]
    for _ in range(degree):
        powers.append(powers[-1] * factor)
    return powers


def fixed_pairs(form, numbers):
    """The terms with the first places fixed; equal exponents may be left."""
    tables = []
    for number, degree in zip(numbers, form.degrees):
        table = [1]
        for _ in range(degree):
            table.append(table[-1] * number % form.prime)
        tables.append(table)
    pairs = []
    for exponents, coefficient in form.terms:
        value = coefficient
        for table, exponent in zip(tables, exponents):
            value = value * table[exponent] % form.prime
        pairs.append((exponents[len(tables):], value))
    return pairs


class Form:
    """A sum of terms (exponents, coefficient), in lexicographic order of their exponents."""

    def __init__(self, prime, places, terms):
        check_prime(prime)
        check_range(places, 0, MAX_PLACES)
        check_at_most(terms, MAX_TERMS)
        for exponents, coefficient in terms:
            check_term(prime, places, exponents, coefficient)
        added = added_terms(prime, [(tuple(exponents), coefficient) for exponents, coefficient in terms])
        self.prime = prime
        self.places = places
        self.terms = added
        self.degrees = tuple([max([term[0][place] for term in added], default=0) for place in range(places)])

    def __eq__(self, other):
        return (isinstance(other, Form) and self.prime == other.prime and self.places == other.places
                and self.terms == other.terms)

    def __add__(self, other):
        return added_forms(self, other, 1)

    def __sub__(self, other):
        return added_forms(self, other, -1)

    def __mul__(self, other):
        check_alike(self, other)
        if len(self.terms) * len(other.terms) > MAX_PRODUCTS:
            raise TooLarge()
        # In a field the highest terms do not cancel, so the degrees add up.
        for degree, other_degree in zip(self.degrees, other.degrees):
            if degree + other_degree > MAX_DEGREE:
                raise TooLarge()
        pairs = []
        for exponents, coefficient in self.terms:
            for other_exponents, other_coefficient in other.terms:
                together = tuple([left + right for left, right in zip(exponents, other_exponents)])
                pairs.append((together, coefficient * other_coefficient))
        return Form(self.prime, self.places, added_terms(self.prime, pairs))

    def __neg__(self):
        return Form(self.prime, self.places, [(exponents, -number % self.prime) for exponents, number in self.terms])

    def at(self, point):
        """The value at a point."""
        check_length(point, self.places)
        check_numbers(self.prime, point)
        return sum([value for _, value in fixed_pairs(self, point)]) % self.prime

    def fix(self, numbers):
        """The form in the places that remain when the first ones are fixed to the numbers."""
        if len(numbers) > self.places:
            raise WrongPlaces()
        check_numbers(self.prime, numbers)
        return Form(self.prime, self.places - len(numbers), added_terms(self.prime, fixed_pairs(self, numbers)))

    def scale(self, number):
        """The form times a number."""
        check_number(self.prime, number)
        pairs = [(exponents, number * coefficient % self.prime) for exponents, coefficient in self.terms]
        return Form(self.prime, self.places, pairs)

    def is_zero(self):
        """True for the form without terms."""
        return self.terms == ()

    def as_poly(self):
        """The polynomial with the same terms."""
        if self.places != 1:
            raise WrongPlaces()
        coefficients = [0] * (MAX_DEGREE + 1)
        for exponents, coefficient in self.terms:
            coefficients[exponents[0]] = coefficient
        return Poly(self.prime, coefficients)

    def put_in(self, polys):
        """The polynomial that is left when each place is replaced by a polynomial."""
        check_length(polys, self.places)
        for poly in polys:
            check_field(self.prime, poly)
        for exponents, _ in self.terms:
            if sum([exponent * poly.degree for exponent, poly in zip(exponents, polys)]) >= MAX_COEFFICIENTS:
                raise TooLarge()
        one = constant(self.prime, 1)
        tables = [powers_of(one, poly, degree) for poly, degree in zip(polys, self.degrees)]
        total = constant(self.prime, 0)
        for exponents, coefficient in self.terms:
            part = constant(self.prime, coefficient)
            for table, exponent in zip(tables, exponents):
                part = part * table[exponent]
            total = total + part
        return total

    def text(self):
        """The written form."""
        words = [f"{number}:{write_numbers(exponents)}" for exponents, number in self.terms]
        return " ".join([str(self.prime), str(self.places)] + words)


def read_term(word):
    """The pair (exponents, coefficient) that a word of a form tells."""
    coefficient, _, exponents = word.partition(":")
    return read_numbers(exponents), read_number(coefficient)


def read_form(text):
    """The form whose written form the text is."""
    check_text(text)
    words = split_words(text)
    if len(words) < 2:
        raise BadText()
    try:
        form = Form(read_number(words[0]), read_number(words[1]), [read_term(word) for word in words[2:]])
    except TalkError:
        raise BadText() from None
    check_written(text, form.text())
    return form


def constant_form(prime, places, number):
    """The form that is a number everywhere."""
    check_prime(prime)
    check_range(places, 0, MAX_PLACES)
    return Form(prime, places, [([0] * places, number)])


def place_form(prime, places, at):
    """The form that is one of its places, from 1."""
    check_prime(prime)
    check_range(places, 0, MAX_PLACES)
    check_range(at, 1, places)
    exponents = [0] * places
    exponents[at - 1] = 1
    return Form(prime, places, [(exponents, 1)])


def form_of(poly):
    """The form in one place with the same terms."""
    if poly.degree > MAX_DEGREE:
        raise TooLarge()
    return Form(poly.prime, 1, [((power,), coefficient) for power, coefficient in enumerate(poly)])
