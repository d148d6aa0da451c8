"""Primes, and arithmetic modulo a prime."""

from sumtalk.checks import check_figures, check_number, check_numbers, check_range, is_number, is_whole
from sumtalk.errors import DivisionByZero, NotPrime, TooLarge

MAX_PRIME = 101
MAX_TESTED = 10000
MAX_EXPONENT = 10000


def is_prime(value):
    """True if the value is an integer that is prime."""
    if not is_whole(value):
        return False
    if value > MAX_TESTED:
        raise TooLarge()
    divisor = 2
    while divisor * divisor <= value:
        if value % divisor == 0:
            return False
        divisor = divisor + 1
    return value > 1


def primes_to(limit):
    """The list of the primes up to the limit, ascending."""
    if limit > MAX_TESTED:
        raise TooLarge()
    return [number for number in range(2, limit + 1) if is_prime(number)]


def check_prime(prime):
    """The prime itself; NotPrime unless it is the prime of a field."""
    # The size is looked at first, because is_prime has a bound of its own.
    if not is_whole(prime) or prime > MAX_PRIME or not is_prime(prime):
        raise NotPrime(prime)
    return prime


def power_modulo(prime, number, exponent):
    """The number to the exponent, by squaring; 0 to the power 0 is 1."""
    result = 1
    while exponent > 0:
        if exponent % 2 == 1:
            result = result * number % prime
        number = number * number % prime
        exponent = exponent // 2
    return result


def whole_power(number, exponent):
    """The integer to the exponent, not modulo anything."""
    result = 1
    for _ in range(exponent):
        result = result * number
    return result


class Field:
    """The numbers 0 to prime - 1, with arithmetic modulo the prime."""

    def __init__(self, prime):
        self.prime = check_prime(prime)

    def __contains__(self, value):
        return is_number(self.prime, value)

    def __eq__(self, other):
        return isinstance(other, Field) and self.prime == other.prime

    def add(self, number, other_number):
        """The sum of two numbers."""
        check_numbers(self.prime, (number, other_number))
        return (number + other_number) % self.prime

    def subtract(self, number, other_number):
        """The first number minus the second one."""
        check_numbers(self.prime, (number, other_number))
        return (number - other_number) % self.prime

    def multiply(self, number, other_number):
        """The product of two numbers."""
        check_numbers(self.prime, (number, other_number))
        return number * other_number % self.prime

    def divide(self, number, other_number):
        """The first number divided by the second one, which is not 0."""
        check_numbers(self.prime, (number, other_number))
        return number * self.invert(other_number) % self.prime

    def negate(self, number):
        """0 minus the number."""
        check_number(self.prime, number)
        return -number % self.prime

    def invert(self, number):
        """1 divided by the number, which is not 0."""
        check_number(self.prime, number)
        if number == 0:
            raise DivisionByZero()
        # By Fermat the power prime - 1 is 1.
        return power_modulo(self.prime, number, self.prime - 2)

    def power(self, number, exponent):
        """The number to an exponent from 0 to 10,000."""
        check_number(self.prime, number)
        check_range(exponent, 0, MAX_EXPONENT)
        return power_modulo(self.prime, number, exponent)

    def reduce(self, integer):
        """The number that an integer of either sign is."""
        check_figures(integer)
        return integer % self.prime

    def members(self):
        """The list of all numbers, ascending."""
        return list(range(self.prime))
