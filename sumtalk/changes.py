"""Changes at one corner, folding tellers, the work of talks, and short forms."""

from sumtalk.checks import check_at_most, check_length, check_number, check_numbers, check_range
from sumtalk.claims import Claim
from sumtalk.counts import check_degrees
from sumtalk.errors import DegreeTooHigh, WrongPlaces
from sumtalk.fields import check_prime
from sumtalk.fillings import TABLE_LENGTHS, check_corner, check_table, filling, folded, index_of
from sumtalk.journals import MAX_ROUNDS, Journal
from sumtalk.polys import MAX_COEFFICIENTS, Poly


def added_at(prime, table, at, step):
    """The list with the step added at an index."""
    changed = list(table)
    changed[at] = (changed[at] + step) % prime
    return changed


def changed_table(prime, table, at, step):
    """The table with the step added at an index."""
    check_prime(prime)
    check_table(prime, table, TABLE_LENGTHS)
    check_range(at, 0, len(table) - 1)
    check_number(prime, step)
    return added_at(prime, table, at, step)


def changed_claim(claim, corner, step):
    """The claim with the step times the corner's weight added to its form, and the step to its total."""
    # Its length is looked at ahead of the bound that corners have elsewhere.
    check_length(corner, claim.places)
    check_corner(corner)
    check_number(claim.prime, step)
    if 0 in claim.degrees:
        raise DegreeTooHigh()
    nothing = [0] * (1 << claim.places)
    added = filling(claim.prime, added_at(claim.prime, nothing, index_of(corner), step))
    return Claim(claim.form + added, degrees=claim.degrees, total=(claim.total + step) % claim.prime)


def corner_line(prime, bit):
    """The polynomial X for 1, and 1 - X for 0."""
    if bit == 1:
        return Poly(prime, (0, 1))
    return Poly(prime, (1, prime - 1))


def patched(journal, corner, step):
    """The journal that fits a claim changed at the corner by the step as well as this one fits the claim."""
    check_corner(corner)
    check_number(journal.prime, step)
    rounds = list(journal.rounds)
    factor = step
    for at, bit in enumerate(corner[:journal.length]):
        poly, coin = rounds[at]
        added = corner_line(journal.prime, bit).scale(factor)
        rounds[at] = (poly + added, coin)
        factor = added.at(coin)
    return Journal(journal.prime, (journal.total + step) % journal.prime, rounds)


def changed_rounds(prime, corner, coins):
    """The number of rounds that a patch at the corner changes with these coins."""
    check_prime(prime)
    check_corner(corner)
    check_length(coins, len(corner))
    check_numbers(prime, coins)
    for at, (bit, coin) in enumerate(zip(corner, coins)):
        if coin == 1 - bit:
            return at + 1
    return len(corner)


class Folding:
    """Tells the round polynomials of a table's filling from a table that each coin folds."""

    def __init__(self, prime, table):
        check_prime(prime)
        check_table(prime, table, TABLE_LENGTHS)
        self.prime = prime
        self.left = tuple(table)
        self.read = 0
        self.made = 0

    def next_poly(self):
        """The polynomial of degree at most 1 with the sums of the two halves as its values at 0 and 1."""
        self.check_unfinished()
        half = len(self.left) // 2
        at_0 = sum(self.left[:half]) % self.prime
        at_1 = sum(self.left[half:]) % self.prime
        self.read = self.read + len(self.left)
        return Poly(self.prime, (at_0, (at_1 - at_0) % self.prime))

    def take(self, coin):
        """Fold the table at the coin."""
        check_number(self.prime, coin)
        self.check_unfinished()
        self.left = tuple(folded(self.prime, self.left, coin))
        self.made = self.made + len(self.left)

    def check_unfinished(self):
        """Raise WrongPlaces if the table cannot be folded any more."""
        if len(self.left) == 1:
            raise WrongPlaces()


def play_folding(prime, table, coins):
    """The journal of a folding teller's whole talk, and how many numbers it read and made."""
    folding = Folding(prime, table)
    check_length(coins, TABLE_LENGTHS.index(len(table)))
    check_numbers(prime, coins)
    rounds = []
    for coin in coins:
        rounds.append((folding.next_poly(), coin))
        folding.take(coin)
    return Journal(prime, sum(table) % prime, rounds), folding.read, folding.made


def talk_work(degrees):
    """The greatest numbers of numbers sent, of coins and of multiplications, for these told degrees."""
    check_degrees(degrees, MAX_ROUNDS)
    return sum([degree + 1 for degree in degrees]), len(degrees), sum(degrees)


def journal_work(journal):
    """The numbers of coefficients sent, of coins and of multiplications in a journal."""
    sent = sum([len(poly.coefficients) for poly in journal.polys])
    return sent, journal.length, sum([poly.degree for poly in journal.polys])


def short_form(poly):
    """The tuple of the coefficients without the one with index 1."""
    return poly.coefficients[:1] + poly.coefficients[2:]


def shortened(journal):
    """The list of the short forms of the hand-ins."""
    return [short_form(poly) for poly in journal.polys]


def long_form(prime, short, owed):
    """The polynomial with a short form and these ends."""
    first = short[0] if len(short) > 0 else 0
    later = list(short[1:])
    second = (owed - 2 * first - sum(later)) % prime
    return Poly(prime, [first, second] + later)


def lengthened(prime, total, shorts, coins):
    """The journal with these short forms in which no round is broken by its sum."""
    check_prime(prime)
    check_number(prime, total)
    check_at_most(shorts, MAX_ROUNDS)
    for short in shorts:
        check_at_most(short, MAX_COEFFICIENTS - 1)
        check_numbers(prime, short)
    check_length(coins, len(shorts))
    check_numbers(prime, coins)
    rounds = []
    owed = total
    for short, coin in zip(shorts, coins):
        poly = long_form(prime, short, owed)
        rounds.append((poly, coin))
        owed = poly.at(coin)
    return Journal(prime, total, rounds)
