"""Points [3] to [5] and the entry sumtalk/fields.py."""

from sumtalk import fields
from sumtalk.errors import DivisionByZero, NotInField, NotPrime, OutOfRange, TooLarge
from sumtalk.fields import Field, check_prime, is_prime, primes_to
from helper import Case, OTHER_KINDS

PRIMES = (2, 3, 5, 7, 11, 13, 17, 19, 23, 29, 31, 37, 41, 43, 47, 53, 59, 61, 67, 71, 73, 79, 83, 89, 97, 101)
TWO_NUMBERS = ("add", "subtract", "multiply", "divide")


class Primes(Case):
    def test_small_integers(self):
        for value in range(-20, 102):
            with self.subTest(value):
                self.same(is_prime(value), value in PRIMES)

    def test_against_all_divisors(self):
        for value in range(2, 600):
            with self.subTest(value):
                self.same(is_prime(value), all(value % divisor for divisor in range(2, value)))

    def test_squares_and_products_of_primes(self):
        for value in (4, 9, 25, 49, 121, 9409, 97 * 97, 97 * 101, 89 * 97):
            with self.subTest(value):
                self.same(is_prime(value), False)

    def test_below_two(self):
        for value in (1, 0, -1, -2, -7, -10001, -10 ** 400):
            with self.subTest(value > -100):
                self.same(is_prime(value), False)

    def test_bound(self):
        self.same(is_prime(9973), True)
        self.same(is_prime(10000), False)
        self.error(TooLarge, is_prime, 10001)
        self.error(TooLarge, is_prime, 10007)
        self.error(TooLarge, is_prime, 10 ** 300)
        self.error(TooLarge, is_prime, 10 ** 6000 + 1)

    def test_other_kinds(self):
        for value in OTHER_KINDS + ("7", 7.0, [7], {}):
            with self.subTest(value):
                self.same(is_prime(value), False)

    def test_primes_to(self):
        self.same(primes_to(101), list(PRIMES))
        self.same(primes_to(100), list(PRIMES[:-1]))
        self.same(primes_to(3), [2, 3])
        self.same(primes_to(limit=2), [2])

    def test_primes_to_below_two(self):
        for limit in (1, 0, -1, -10001, -10 ** 6000):
            with self.subTest(limit > -100):
                self.same(primes_to(limit), [])

    def test_primes_to_bound(self):
        self.assertEqual(len(primes_to(10000)), 1229)
        self.assertEqual(primes_to(10000)[-1], 9973)
        self.error(TooLarge, primes_to, 10001)
        self.error(TooLarge, primes_to, 10 ** 6000)

    def test_primes_to_new_lists(self):
        self.new_list(primes_to, 10)

    def test_check_prime(self):
        self.same(fields.MAX_PRIME, 101)
        for prime in PRIMES:
            with self.subTest(prime):
                self.same(check_prime(prime), prime)
        self.same(check_prime(prime=7), 7)

    def test_no_primes(self):
        for value in (-7, -2, -1, 0, 1, 4, 9, 91, 99, 100, 102, 103, 107, 9973, 10000, 10001, 10007, 10 ** 6000,
                      -10 ** 6000) + OTHER_KINDS + ("7", 7.0):
            for call in (check_prime, Field):
                self.assertIs(self.error(NotPrime, call, value).value, value)


class Fields(Case):
    def test_sums_differences_and_products(self):
        for prime in (2, 3, 7, 101):
            field = Field(prime)
            numbers = range(prime) if prime < 10 else (0, 1, 2, 50, 51, 99, 100)
            for a in numbers:
                for b in numbers:
                    with self.subTest((prime, a, b)):
                        self.same(field.add(a, b), (a + b) % prime)
                        self.same(field.subtract(a, b), (a - b) % prime)
                        self.same(field.multiply(a, b), a * b % prime)

    def test_quotients(self):
        for prime in (2, 3, 7, 101):
            field = Field(prime)
            for b in range(1, prime):
                self.same(field.multiply(b, field.invert(b)), 1)
                for a in (0, 1, prime - 1):
                    with self.subTest((prime, a, b)):
                        self.same(field.multiply(field.divide(a, b), b), a)
                        self.assertIn(field.divide(a, b), field)

    def test_negate(self):
        for prime in (2, 3, 7, 101):
            for number in range(prime):
                with self.subTest((prime, number)):
                    self.same(Field(prime).negate(number), (prime - number) % prime)

    def test_division_by_zero(self):
        for prime in (2, 5, 101):
            field = Field(prime)
            self.error(DivisionByZero, field.divide, 0, 0)
            self.error(DivisionByZero, field.divide, 1, 0)
            self.error(DivisionByZero, field.invert, 0)
            self.same(field.divide(0, 1), 0)

    def test_wrong_first_and_second_numbers(self):
        for prime in (2, 5, 101):
            field = Field(prime)
            for name in TWO_NUMBERS:
                for wrong in (-1, prime, 10 ** 400) + OTHER_KINDS:
                    self.assertIs(self.error(NotInField, getattr(field, name), wrong, 0).value, wrong)
                    self.assertIs(self.error(NotInField, getattr(field, name), 1, wrong).value, wrong)
                    self.assertIs(self.error(NotInField, getattr(field, name), wrong, "second").value, wrong)

    def test_wrong_single_numbers(self):
        for prime in (2, 5, 101):
            field = Field(prime)
            for name in ("negate", "invert"):
                for wrong in (-1, prime, 10 ** 400) + OTHER_KINDS:
                    self.assertIs(self.error(NotInField, getattr(field, name), wrong).value, wrong)

    def test_arguments_by_name(self):
        field = Field(prime=7)
        self.same(field.add(number=5, other_number=4), 2)
        self.same(field.subtract(number=3, other_number=4), 6)
        self.same(field.multiply(number=5, other_number=4), 6)
        self.same(field.divide(number=1, other_number=2), 4)
        self.same(field.negate(number=3), 4)
        self.same(field.invert(number=3), 5)
        self.same(field.power(number=3, exponent=2), 2)
        self.same(field.reduce(integer=8), 1)

    def test_power(self):
        for prime in (2, 3, 7, 101):
            for number in range(prime):
                for exponent in (0, 1, 2, 3, 5, 12, 100, 101, 9999, 10000):
                    with self.subTest((prime, number, exponent)):
                        self.same(Field(prime).power(number, exponent), pow(number, exponent, prime))

    def test_power_zero_of_zero(self):
        for prime in PRIMES:
            self.same(Field(prime).power(0, 0), 1)

    def test_wrong_exponents(self):
        for exponent in (-1, 10001, 10 ** 400, -10 ** 400) + OTHER_KINDS:
            self.error(OutOfRange, Field(5).power, 2, exponent)
            self.assertIs(self.error(NotInField, Field(5).power, 5, exponent).value, 5)
        for wrong in (-1, 5) + OTHER_KINDS:
            self.assertIs(self.error(NotInField, Field(5).power, wrong, 2).value, wrong)

    def test_reduce(self):
        for prime in (2, 3, 7, 101):
            for integer in list(range(-210, 210)) + [10 ** 300 - 1, 1 - 10 ** 300, 10 ** 299]:
                with self.subTest((prime, integer)):
                    self.same(Field(prime).reduce(integer), integer % prime)
        self.same(Field(7).reduce(-1), 6)

    def test_reduce_bound(self):
        for integer in (10 ** 300, -10 ** 300, 10 ** 300 + 7, 10 ** 6000, -10 ** 6000):
            self.error(TooLarge, Field(7).reduce, integer)

    def test_members(self):
        for prime in PRIMES:
            self.same(Field(prime).members(), list(range(prime)))
        field = Field(5)
        self.new_list(field.members)

    def test_in(self):
        for prime in (2, 5, 101):
            field = Field(prime)
            for number in range(prime):
                self.same(number in field, True)
            for value in (-1, prime, prime + 1, 10 ** 400, -10 ** 400, "0", {}) + OTHER_KINDS:
                self.same(value in field, False)

    def test_equal(self):
        self.same(Field(5) == Field(5), True)
        self.same(Field(5) != Field(5), False)
        self.same(Field(5) == Field(7), False)
        self.same(Field(5) != Field(7), True)
        for value in (5, "5", None, [0, 1, 2, 3, 4], (5,)):
            self.same(Field(5) == value, False)
            self.same(value == Field(5), False)

    def test_prime(self):
        for prime in PRIMES:
            self.same(Field(prime).prime, prime)

    def test_methods_are_defined_in_the_class(self):
        for name in TWO_NUMBERS + ("negate", "invert", "power", "reduce", "members", "__contains__", "__eq__"):
            self.assertIn(name, vars(Field))
        for thing in (Field, is_prime, primes_to, check_prime):
            self.assertEqual(thing.__module__, "sumtalk.fields")
