"""Scripts that are done on a book, row by row, and their transcripts."""

from sumtalk.book import Book, verdict_text
from sumtalk.circuits import KINDS, Circuit, circuit_values
from sumtalk.counts import liar_share
from sumtalk.errors import BadRow, BadText, TalkError, TooLarge
from sumtalk.forms import read_form
from sumtalk.formulas import models, read_formula
from sumtalk.journals import Journal
from sumtalk.liars import Liar, best_paper
from sumtalk.polys import Poly
from sumtalk.tellers import Honest, talk
from sumtalk.words import MAX_TEXT, read_number, read_numbers, split_words, write_numbers

MAX_ROWS = 100
MAX_EACH = 20
ARROW = " => "
EACH = "each"
END_OF_WORDS = ":"
MARK = "@"
TRUE_TOTAL = "true"


def do_form(book, words):
    """form NAME PLACES TERM .."""
    form = read_form(" ".join([str(book.prime)] + words[1:]))
    book.put_form(words[0], form)
    return f"form {words[0]}"


def do_claim(book, words):
    """claim NAME FORM TOTAL [DEGREES]"""
    name, of, total_word, *told = words
    book.form_named(of)
    total = None if total_word == TRUE_TOTAL else read_number(total_word)
    degrees = None if len(told) == 0 else read_numbers(told[0])
    book.put_claim(name, of, degrees=degrees, total=total)
    return "true" if book.claim_named(name).is_true() else "false"


def filed(book, name, of, journal):
    """The written form of the verdict on a journal that is filed."""
    return verdict_text(book.file_journal(name, of, journal))


def do_talk(book, words):
    """talk NAME CLAIM COINS"""
    name, of, coins_word = words
    claim = book.claim_named(of)
    coins = read_numbers(coins_word)
    return filed(book, name, of, talk(claim, Honest(claim), coins))


def do_liar(book, words):
    """liar NAME CLAIM COINS"""
    name, of, coins_word = words
    claim = book.claim_named(of)
    coins = read_numbers(coins_word)
    return filed(book, name, of, talk(claim, Liar(claim, best_paper(claim)), coins))


def read_told_round(word):
    """The pair of the coin and the coefficients of a ROUND."""
    coin_word, _, coefficients_word = word.partition(":")
    coin = read_number(coin_word)
    coefficients = read_numbers(coefficients_word)
    if coefficients and coefficients[-1] == 0:
        raise BadText()
    return coin, coefficients


def do_journal(book, words):
    """journal NAME CLAIM TOTAL ROUND .."""
    name, of, total_word, *round_words = words
    book.claim_named(of)
    total = read_number(total_word)
    told = [read_told_round(word) for word in round_words]
    rounds = [(Poly(book.prime, coefficients), coin) for coin, coefficients in told]
    return filed(book, name, of, Journal(book.prime, total, rounds))


def do_share(book, words):
    """share CLAIM"""
    return liar_share(book.claim_named(words[0])).text()


def do_count(book, words):
    """count PLACES WORD .."""
    places = read_number(words[0])
    formula = read_formula(" ".join(words[1:]))
    return str(len(models(formula, places)))


def read_told_gate(word):
    """The gate that is joined by dots."""
    parts = word.split(".")
    if len(parts) != 3 or parts[0] not in KINDS:
        raise BadText()
    return parts[0], read_number(parts[1]), read_number(parts[2])


def do_circuit(book, words):
    """circuit INPUTS LAYER .."""
    inputs = read_numbers(words[0])
    layers = [[read_told_gate(gate) for gate in word.split("+")] for word in words[1:]]
    circuit = Circuit(layers, len(inputs))
    return write_numbers(circuit_values(circuit, book.prime, inputs)[0])


def do_undo(book, words):
    """undo"""
    return f"undo {book.undo()}"


def do_redo(book, words):
    """redo"""
    return f"redo {book.redo()}"


def do_audit(book, words):
    """audit"""
    return str(book.audit())


DEEDS = {"form": do_form, "claim": do_claim, "talk": do_talk, "liar": do_liar, "journal": do_journal,
         "share": do_share, "count": do_count, "circuit": do_circuit, "undo": do_undo, "redo": do_redo,
         "audit": do_audit}
# The numbers of words behind the first one; a row without a greatest one may have any number.
LEAST_WORDS = {"form": 2, "claim": 3, "talk": 3, "liar": 3, "journal": 3, "share": 1, "count": 1, "circuit": 1,
               "undo": 0, "redo": 0, "audit": 0}
MOST_WORDS = {"claim": 4, "talk": 3, "liar": 3, "share": 1, "undo": 0, "redo": 0, "audit": 0}


def do_words(book, words):
    """The output of a row that is neither empty nor an each row."""
    first, *rest = words
    if first not in DEEDS:
        raise BadText()
    many = len(rest)
    if not LEAST_WORDS[first] <= many <= MOST_WORDS.get(first, many):
        raise BadText()
    deed = DEEDS[first]
    return deed(book, rest)


def do_once(book, row, word):
    """The output of the ROW of an each row for one of its WORDs."""
    # The length is told ahead of the replacing, which could make a text of many millions of characters.
    if len(row) + row.count(MARK) * (len(word) - 1) > MAX_TEXT:
        raise TooLarge()
    # The word each is no deed here, so a row that has become an each row is refused.
    return do_words(book, split_words(row.replace(MARK, word)))


def do_each(book, words):
    """each WORD .. : ROW"""
    if END_OF_WORDS not in words:
        raise BadText()
    end = words.index(END_OF_WORDS)
    told = words[1:end]
    inner = words[end + 1:]
    if len(inner) == 0 or inner[0] == EACH:
        raise BadText()
    if len(told) > MAX_EACH:
        raise TooLarge()
    row = " ".join(inner)
    # A row that fails leaves the book as it was ahead of all of them.
    trial = book.twin()
    outputs = [do_once(trial, row, word) for word in told]
    book.take_over(trial)
    return "; ".join(outputs)


def do_row(book, row):
    """The output of a row of a script."""
    words = split_words(row)
    if len(words) == 0:
        return ""
    if words[0] == EACH:
        return do_each(book, words)
    return do_words(book, words)


class Desk:
    """Does scripts on a book of its own."""

    def __init__(self, prime):
        self.book = Book(prime)
        self.prime = prime

    def run(self, text):
        """The list of the outputs, one for each row."""
        rows = text.split("\n")
        if len(rows) > MAX_ROWS or len(text) > MAX_TEXT:
            raise TooLarge()
        outputs = []
        for ahead, row in enumerate(rows):
            try:
                outputs.append(do_row(self.book, row))
            except TalkError as error:
                raise BadRow(ahead + 1, error.__class__.__name__) from None
        return outputs


def transcript(prime, text):
    """The rows of a script, each with its output, made on a new desk."""
    outputs = Desk(prime).run(text)
    return "\n".join([row + ARROW + output for row, output in zip(text.split("\n"), outputs)])


def answers(desk, part, output):
    """True if the desk does the row with just this output."""
    try:
        outputs = desk.run(part)
    except TalkError:
        return False
    return outputs == [output]


def check_transcript(prime, text):
    """The number, from 1, of the first wrong row of a transcript, or 0."""
    desk = Desk(prime)
    rows = text.split("\n")
    if len(rows) > MAX_ROWS:
        raise TooLarge()
    for ahead, row in enumerate(rows):
        part, arrow, output = row.rpartition(ARROW)
        if arrow == "" or not answers(desk, part, output):
            return ahead + 1
    return 0
