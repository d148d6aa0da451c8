"""Shares of tellers, counted over all rows of coins, found by rule and found by search."""

from sumtalk.checks import check_at_most, check_range
from sumtalk.errors import TooLarge
from sumtalk.fields import check_prime, whole_power
from sumtalk.forms import MAX_DEGREE, MAX_PLACES, MAX_TERMS, Form
from sumtalk.journals import MAX_ROUNDS
from sumtalk.judging import is_let_by
from sumtalk.points import all_polys, all_rows, from_roots
from sumtalk.polys import MAX_COEFFICIENTS
from sumtalk.shares import Share, either_of
from sumtalk.tellers import Rows, talk

MAX_SEARCH_COST = 3000


class Remembering:
    """Asks a teller once for equal rows of coins; a teller whose share is counted answers from the coins alone."""

    def __init__(self, inner):
        self.inner = inner
        self.answers = {}

    def hand(self, coins):
        """What the inner teller hands in."""
        row = tuple(coins)
        if row not in self.answers:
            self.answers[row] = self.inner.hand(list(coins))
        return self.answers[row]


def let_by_rows(claim, teller):
    """The list of the rows of coins on which the teller's talk is let by."""
    rows = all_rows(claim.prime, claim.places)
    # Rows with one beginning share their first hand-ins.
    asked = Remembering(teller)
    return [row for row in rows if is_let_by(claim, talk(claim, asked, row))]


def share_of(claim, teller):
    """The share of the rows of coins on which the teller's talk is let by."""
    return Share(len(let_by_rows(claim, teller)), whole_power(claim.prime, claim.places))


def check_degree(degree):
    """Check an integer that may be the degree of a polynomial."""
    check_range(degree, 0, MAX_COEFFICIENTS - 1)


def check_degrees(degrees, most):
    """Check a row of at most so many degrees."""
    check_at_most(degrees, most)
    for degree in degrees:
        check_degree(degree)


def round_roots(prime, degree):
    """The roots that count for a round of this told degree."""
    check_prime(prime)
    check_degree(degree)
    return min(degree, prime - 1)


def counting_rounds(prime, degrees):
    """How many rounds count for the rule share."""
    check_prime(prime)
    check_degrees(degrees, MAX_ROUNDS)
    # Over 2 a constant has the ends 0, so a liar cannot answer there.
    if prime == 2 and 0 in degrees:
        return degrees.index(0)
    return len(degrees)


def root_share(prime, degrees):
    """1 minus the product of 1 - m/p over all degrees, with m the roots of a round."""
    return either_of([Share(round_roots(prime, degree), prime) for degree in degrees])


def rule_share(prime, degrees):
    """The greatest share of all tellers for a false claim with these told degrees."""
    return root_share(prime, degrees[:counting_rounds(prime, degrees)])


def liar_share(claim):
    """The greatest share of all tellers for the claim, by rule."""
    if claim.is_true():
        return Share(1)
    return rule_share(claim.prime, claim.degrees)


def search_cost(prime, degrees):
    """The cost of a plain search for these told degrees."""
    check_prime(prime)
    check_degrees(degrees, MAX_ROUNDS)
    return sum([whole_power(prime, at + degree + 2) for at, degree in enumerate(degrees)])


def values_of(form):
    """The list of the values at all points, in lexicographic order of the points."""
    forms = [form]
    # Place by place, so that terms that fall together are added up once for many points.
    for _ in range(form.places):
        forms = [left.fix((number,)) for left in forms for number in range(form.prime)]
    return [left.at(()) for left in forms]


def best_answers(prime, tables, answers):
    """The list, by owed number, of the pair of the greatest count and a polynomial that reaches it, if it is not 0."""
    best = [(0, None)] * prime
    for poly, values in answers:
        owed = poly.ends()
        count = sum([table[value][0] for table, value in zip(tables, values)])
        if count > best[owed][0]:
            best[owed] = (count, poly)
    return best


def searched(claim):
    """For each row of coins, by owed number, the greatest count of rows let by and a hand-in or None."""
    prime = claim.prime
    if search_cost(prime, claim.degrees) > MAX_SEARCH_COST:
        raise TooLarge()
    found = {}
    for row, value in zip(all_rows(prime, claim.places), values_of(claim.form)):
        found[row] = [(1 if owed == value else 0, None) for owed in range(prime)]
    for place in range(claim.places - 1, -1, -1):
        polys = all_polys(prime, claim.degrees[place])
        answers = [(poly, [poly.at(coin) for coin in range(prime)]) for poly in polys]
        for row in all_rows(prime, place):
            found[row] = best_answers(prime, [found[row + (coin,)] for coin in range(prime)], answers)
    return found


def best_count(claim):
    """The greatest number of rows on which any teller is let by, by search."""
    count, _ = searched(claim)[()][claim.total]
    return count


def search_share(claim):
    """The greatest share of all tellers for the claim, by search."""
    return Share(best_count(claim), whole_power(claim.prime, claim.places))


def best_teller(claim):
    """A teller whose share no other teller's exceeds."""
    found = searched(claim)
    rows = []
    waiting = [((), claim.total)]
    while waiting:
        row, owed = waiting.pop()
        _, poly = found[row][owed]
        if poly is not None:
            rows.append((row, poly.coefficients))
            waiting.extend([((*row, coin), poly.at(coin)) for coin in range(claim.prime)])
    return Rows(claim.prime, rows)


def zero_points(form):
    """The list of the points at which the value is 0."""
    points = all_rows(form.prime, form.places)
    return [point for point, value in zip(points, values_of(form)) if value == 0]


def zero_share(form):
    """The share of the points at which the value is 0."""
    return Share(len(zero_points(form)), whole_power(form.prime, form.places))


def zero_bound(prime, degrees):
    """The greatest zero share of a form with these degrees whose value is not 0 everywhere."""
    check_prime(prime)
    check_degrees(degrees, MAX_ROUNDS)
    return root_share(prime, degrees)


def zero_form(prime, degrees):
    """The product of X - r over the first numbers r of each place, as many as count for its degree."""
    check_prime(prime)
    check_degrees(degrees, MAX_PLACES)
    if any([degree > MAX_DEGREE for degree in degrees]):
        raise TooLarge()
    pairs = [((), 1)]
    for degree in degrees:
        factor = from_roots(prime, list(range(round_roots(prime, degree))))
        terms = [(power, number) for power, number in enumerate(factor) if number != 0]
        # Unlike places never cancel, so the number of terms only grows.
        check_at_most(terms, MAX_TERMS // len(pairs))
        pairs = [((*exponents, power), value * number % prime) for exponents, value in pairs for power, number in terms]
    return Form(prime, len(degrees), pairs)
