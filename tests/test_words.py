"""Points [6] and [8] and the entry sumtalk/words.py."""

from sumtalk.errors import BadText
from sumtalk.words import is_name, read_number, read_numbers, split_words, write_numbers
from helper import Case, NO_TEXTS


class Names(Case):
    def test_names(self):
        for word in ("a", "z", "form1", "a1b2", "abcdefghijkl", "zz9999999999", "x0"):
            with self.subTest(word):
                self.same(is_name(word), True)

    def test_length(self):
        self.same(is_name(""), False)
        self.same(is_name("a" * 12), True)
        self.same(is_name("a" * 13), False)

    def test_first_character_is_a_letter(self):
        for word in ("1", "1a", "9zz", "0"):
            with self.subTest(word):
                self.same(is_name(word), False)

    def test_characters(self):
        for character in "ABZ_-. \n\t@`{/:\u00e9\u0430\u0661\u00b2":
            for word in (character, "a" + character, "a" + character + "b"):
                with self.subTest(word):
                    self.same(is_name(word), False)

    def test_other_kinds(self):
        for value in (None, True, False, 0, 7, 1.5, b"a", ["a"], ("a",), ["a", "b"], {"a": 1}):
            with self.subTest(value):
                self.same(is_name(value), False)

    def test_argument_by_name(self):
        self.same(is_name(word="a"), True)


class Numbers(Case):
    def test_numbers(self):
        for text, number in (("0", 0), ("1", 1), ("10", 10), ("9876543210", 9876543210)):
            with self.subTest(text):
                self.same(read_number(text), number)
        self.same(read_number(text="12"), 12)

    def test_figures(self):
        self.same(read_number("9" * 300), 10 ** 300 - 1)
        self.same(read_number("1" + "0" * 299), 10 ** 299)
        self.error(BadText, read_number, "1" * 301)
        self.error(BadText, read_number, "1" + "0" * 300)
        self.error(BadText, read_number, "1" * 5000)
        self.error(BadText, read_number, "1" * 20001)

    def test_bad_texts(self):
        for text in ("", "00", "01", "007", "+1", "-1", "-0", " 1", "1 ", "1\n", "\n1", "1 2", "1_0", "1.0", "0x1", "a",
                     "-", ".", "1e3", "\u0661", "\u00b2", "\uff11", "1\t"):
            with self.subTest(text):
                self.error(BadText, read_number, text)

    def test_no_texts(self):
        for value in NO_TEXTS:
            with self.subTest(value):
                self.error(BadText, read_number, value)


class NumbersWords(Case):
    def test_written(self):
        self.same(write_numbers([]), "-")
        self.same(write_numbers(()), "-")
        self.same(write_numbers([0]), "0")
        self.same(write_numbers([3, 0, 1]), "3.0.1")
        self.same(write_numbers((12, 100)), "12.100")
        self.same(write_numbers(integers=[7]), "7")
        self.same(write_numbers([10 ** 300 - 1]), "9" * 300)

    def test_written_of_any_length(self):
        self.same(write_numbers([1] * 20000), "1." * 19999 + "1")

    def test_written_keeps_its_argument(self):
        self.keeps(write_numbers, [4, 0, 2])

    def test_read(self):
        self.same(read_numbers("-"), [])
        self.same(read_numbers("0"), [0])
        self.same(read_numbers("3.0.1"), [3, 0, 1])
        self.same(read_numbers(text="12.100"), [12, 100])

    def test_read_back(self):
        for row in ([], [0], [0, 0], [1, 2, 3], [10 ** 299, 5], [10 ** 300 - 1] * 3, list(range(50))):
            with self.subTest(row):
                self.same(read_numbers(write_numbers(row)), row)

    def test_new_lists(self):
        self.new_list(read_numbers, "1.2")
        empty = read_numbers("-")
        empty.append(1)
        self.same(read_numbers("-"), [])

    def test_figures(self):
        self.same(read_numbers("1." + "2" * 300), [1, int("2" * 300)])
        self.error(BadText, read_numbers, "1." + "2" * 301)
        self.error(BadText, read_numbers, "2" * 301 + ".1")

    def test_characters(self):
        longest = "1." * 9999 + "10"
        self.assertEqual(len(longest), 20000)
        self.same(read_numbers(longest), [1] * 9999 + [10])
        self.same(read_numbers("1." * 9999 + "1"), [1] * 10000)
        self.error(BadText, read_numbers, "1." * 10000 + "1")
        self.assertEqual(write_numbers([1] * 10001), "1." * 10000 + "1")

    def test_bad_texts(self):
        for text in ("", ".", "1.", ".1", "1..2", "--", "-.1", "1.-", "-.-", " -", "- ", "-\n", "01.2", "1.02", "1.00",
                     "1.+2", "+1", "1.-2", "-1", "1 2", "1. 2", "1 .2", " 1.2", "1.2 ", "1.2\n", "1\n.2", "1,2", "a",
                     "1.a", "1_0.2", "\u0661.2"):
            with self.subTest(text):
                self.error(BadText, read_numbers, text)

    def test_no_texts(self):
        for value in NO_TEXTS + ([], ()):
            with self.subTest(value):
                self.error(BadText, read_numbers, value)


class Words(Case):
    def test_words(self):
        self.same(split_words(""), [])
        self.same(split_words("a"), ["a"])
        self.same(split_words("form f 2 3:0.1"), ["form", "f", "2", "3:0.1"])
        self.same(split_words(text="a b"), ["a", "b"])

    def test_every_other_character_is_part_of_a_word(self):
        self.same(split_words("a\tb \r- \u00e9\u00a0x \x0b ~"), ["a\tb", "\r-", "\u00e9\u00a0x", "\x0b", "~"])

    def test_bad_texts(self):
        for text in (" ", "  ", " a", "a ", "a  b", "a   b", "a b ", " a b", "\n", "a\n", "\na", "a\nb", "a \n b",
                     "a b\n"):
            with self.subTest(text):
                self.error(BadText, split_words, text)

    def test_no_bound_on_the_length(self):
        self.same(split_words("a " * 20000 + "b"), ["a"] * 20000 + ["b"])
        self.same(split_words("a" * 50000), ["a" * 50000])

    def test_new_lists(self):
        self.new_list(split_words, "a b")
        empty = split_words("")
        empty.append("a")
        self.same(split_words(""), [])
