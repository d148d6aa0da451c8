"""Books: named forms, claims and judged journals, in the order in which they were made."""

from sumtalk.checks import check_field
from sumtalk.claims import Claim, read_claim
from sumtalk.errors import BadName, BadText, NameTaken, NoSuchName, NothingToRedo, NothingToUndo, TalkError, TooLarge
from sumtalk.fields import check_prime
from sumtalk.forms import read_form
from sumtalk.journals import read_journal
from sumtalk.judging import judge
from sumtalk.words import is_name

MAX_ENTRIES = 100
FORM = "form"
CLAIM = "claim"
JOURNAL = "journal"


def verdict_text(verdict):
    """The written form of a verdict."""
    at, why = verdict
    if at is None:
        return why
    return f"{at} {why}"


class Book:
    """Keeps entries over one prime; the last one can be taken out and put back."""

    def __init__(self, prime):
        self.prime = check_prime(prime)
        # An entry is a tuple of five texts: name, kind, of, text and verdict.
        self.rows = []
        # For each name the entry's kind, its form, claim or journal, and its verdict or None.
        self.things = {}
        self.aside = []

    def __contains__(self, name):
        return is_name(name) and name in self.things

    def __iter__(self):
        return iter(self.rows)

    @property
    def size(self):
        """The number of entries."""
        return len(self.rows)

    def entries(self):
        """The list of the entries."""
        return list(self.rows)

    def put_form(self, name, form):
        """Make the entry of a form."""
        self.check_new(name)
        check_field(self.prime, form)
        self.put((name, FORM, "", form.text(), ""), form, None)

    def put_claim(self, name, of, *, degrees=None, total=None):
        """Make the entry of a claim on the form with the name of."""
        self.check_new(name)
        claim = Claim(self.form_named(of), degrees=degrees, total=total)
        self.put((name, CLAIM, of, claim.text(), ""), claim, None)

    def file_journal(self, name, of, journal):
        """Make the entry of a journal, judged against the claim with the name of; the verdict."""
        self.check_new(name)
        claim = self.claim_named(of)
        check_field(self.prime, journal)
        verdict = judge(claim, journal)
        self.put((name, JOURNAL, of, journal.text(), verdict_text(verdict)), journal, verdict)
        return verdict

    def check_new(self, name):
        """Check a name for a new entry."""
        if not is_name(name):
            raise BadName(name)
        if name in self.things:
            raise NameTaken(name)

    def put(self, row, thing, verdict):
        """Add an entry that is checked, and forget what is put aside."""
        if len(self.rows) >= MAX_ENTRIES:
            raise TooLarge()
        self.rows.append(row)
        self.things[row[0]] = (row[1], thing, verdict)
        self.aside = []

    def named(self, name, kind):
        """The thing and the verdict of the entry of this name and kind."""
        if name not in self:
            raise NoSuchName(name)
        own_kind, thing, verdict = self.things[name]
        if own_kind != kind:
            raise NoSuchName(name)
        return thing, verdict

    def form_named(self, name):
        """The form with this name."""
        return self.named(name, FORM)[0]

    def claim_named(self, name):
        """The claim with this name."""
        return self.named(name, CLAIM)[0]

    def journal_named(self, name):
        """The journal with this name."""
        return self.named(name, JOURNAL)[0]

    def verdict_of(self, name):
        """The verdict of the journal with this name."""
        return self.named(name, JOURNAL)[1]

    def undo(self):
        """Take the last entry out and put it aside; its name."""
        if len(self.rows) == 0:
            raise NothingToUndo()
        row = self.rows.pop()
        self.aside.append((row, self.things.pop(row[0])))
        return row[0]

    def redo(self):
        """Put back the entry that was put aside last; its name."""
        if len(self.aside) == 0:
            raise NothingToRedo()
        row, thing = self.aside.pop()
        self.rows.append(row)
        self.things[row[0]] = thing
        return row[0]

    def twin(self):
        """A book with the same entries and the same put aside."""
        book = Book(self.prime)
        book.take_over(self)
        return book

    def take_over(self, other):
        """Become as another book is now."""
        self.rows = list(other.rows)
        self.things = dict(other.things)
        self.aside = list(other.aside)

    def differences(self, other):
        """The list, ascending, of the names whose entries are not equal in the two books."""
        check_field(self.prime, other)
        own = {row[0]: row for row in self.rows}
        others = {row[0]: row for row in other.rows}
        return [name for name in sorted(set(list(own) + list(others))) if own.get(name) != others.get(name)]

    def audit(self):
        """The audit of the entries, which is 0."""
        return audit(self.prime, self.rows)


def replay_row(book, row):
    """Make the entry that a row of five texts tells."""
    name, kind, of, text, _ = row
    if kind == FORM:
        book.put_form(name, read_form(text))
    elif kind == CLAIM:
        claim = read_claim(text)
        book.put_claim(name, of, degrees=claim.degrees, total=claim.total)
    elif kind == JOURNAL:
        book.file_journal(name, of, read_journal(text))
    else:
        raise BadText()
    if book.rows[-1] != tuple(row):
        raise BadText()


def replay(prime, entries):
    """A new book with these entries."""
    book = Book(prime)
    for row in entries:
        replay_row(book, row)
    return book


def audit(prime, entries):
    """The number, from 1, of the first wrong row, or 0."""
    book = Book(prime)
    for ahead, row in enumerate(entries):
        try:
            replay_row(book, row)
        except TalkError:
            return ahead + 1
    return 0
