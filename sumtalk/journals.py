"""Journals of talks: a total and the rounds that were played."""

from sumtalk.checks import check_at_most, check_field, check_number, check_range
from sumtalk.errors import BadText, TalkError
from sumtalk.fields import check_prime
from sumtalk.polys import Poly
from sumtalk.words import check_text, check_written, read_number, read_numbers, split_words, write_numbers

MAX_ROUNDS = 32


def check_round(prime, poly, coin):
    """Check a hand-in and its coin."""
    check_field(prime, poly)
    check_number(prime, coin)


def round_lines(rounds):
    """The list of the lines that tell the rounds."""
    return [f"{coin} {write_numbers(poly.coefficients)}" for poly, coin in rounds]


class Journal:
    """A prime, a total and rounds, each a hand-in and a coin; nothing needs to fit together."""

    def __init__(self, prime, total, rounds):
        check_prime(prime)
        check_number(prime, total)
        check_at_most(rounds, MAX_ROUNDS)
        for poly, coin in rounds:
            check_round(prime, poly, coin)
        self.prime = prime
        self.total = total
        self.rounds = tuple([(poly, coin) for poly, coin in rounds])
        self.polys = tuple([poly for poly, _ in self.rounds])
        self.coins = tuple([coin for _, coin in self.rounds])

    def __eq__(self, other):
        return (isinstance(other, Journal) and self.prime == other.prime and self.total == other.total
                and self.rounds == other.rounds)

    @property
    def length(self):
        """The number of rounds."""
        return len(self.rounds)

    def owed(self):
        """The list of the owed numbers: the total, and the value of each hand-in at its coin."""
        return [self.total] + [poly.at(coin) for poly, coin in self.rounds]

    def cut(self, at):
        """The journal of the first rounds."""
        check_range(at, 0, self.length)
        return Journal(self.prime, self.total, self.rounds[:at])

    def replaced(self, at, poly, *, coin=None):
        """The journal with one round replaced, from 1; without a coin the round keeps its coin."""
        check_range(at, 1, self.length)
        new_coin = self.coins[at - 1] if coin is None else coin
        check_round(self.prime, poly, new_coin)
        rounds = list(self.rounds)
        rounds[at - 1] = (poly, new_coin)
        return Journal(self.prime, self.total, rounds)

    def extended(self, poly, coin):
        """The journal with one round more."""
        check_round(self.prime, poly, coin)
        # Behind these checks, the constructor refuses a round too many.
        return Journal(self.prime, self.total, [*self.rounds, (poly, coin)])

    def text(self):
        """The written form."""
        return "\n".join([f"{self.prime} {self.total}"] + round_lines(self.rounds))


def read_pair(line):
    """The two words of a line."""
    words = split_words(line)
    if len(words) != 2:
        raise BadText()
    return words


def read_round(prime, line):
    """The pair of a hand-in and a coin that a line tells."""
    coin, coefficients = read_pair(line)
    return Poly(prime, read_numbers(coefficients)), read_number(coin)


def read_journal(text):
    """The journal whose written form the text is."""
    check_text(text)
    first, *lines = text.split("\n")
    prime_word, total_word = read_pair(first)
    prime = read_number(prime_word)
    total = read_number(total_word)
    try:
        journal = Journal(prime, total, [read_round(prime, line) for line in lines])
    except TalkError:
        raise BadText() from None
    check_written(text, journal.text())
    return journal
