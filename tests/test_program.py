"""Points [1], [2] and [6] over the whole program: the modules, their stages, and the names of the interface."""

import ast
import doctest
import importlib
import inspect
import pathlib

import sumtalk
from sumtalk.errors import BadText
from helper import Case

FOLDER = pathlib.Path(sumtalk.__file__).parent
STAGES = ("checks errors words fields shares", "polys points", "forms fillings", "claims journals judging", "tellers",
          "counts", "liars", "batches sides", "formulas", "exact", "circuits", "layers layertellers layershares",
          "ahead changes", "book script")
INTERFACE = {
    "words": (
        "is_name(word); read_number(text); write_numbers(integers); read_numbers(text); split_words(text)"),
    "fields": (
        "is_prime(value); primes_to(limit); check_prime(prime); Field(prime); Field.add(number, "
        "other_number); Field.subtract(number, other_number); Field.multiply(number, other_number); "
        "Field.divide(number, other_number); Field.negate(number); Field.invert(number); Field.power(number, "
        "exponent); Field.reduce(integer); Field.members()"),
    "shares": (
        "Share(top, bottom=1); Share.rest(); Share.either(other); Share.at_most(other); Share.text(); "
        "read_share(text); product_of(shares); either_of(shares)"),
    "polys": (
        "Poly(prime, coefficients); Poly.at(number); Poly.ends(); Poly.is_zero(); Poly.fits(bound); "
        "Poly.scale(number); Poly.divide(other); Poly.reduced(); Poly.padded(many); Poly.text(); "
        "read_poly(text); constant(prime, number)"),
    "points": (
        "roots_of(poly); from_roots(prime, numbers); agreements(poly, other); same_values(poly, other); "
        "through(prime, pairs); through_values(prime, numbers); all_rows(prime, many); all_polys(prime, "
        "degree)"),
    "forms": (
        "Form(prime, places, terms); Form.at(point); Form.fix(numbers); Form.scale(number); Form.is_zero(); "
        "Form.as_poly(); Form.put_in(polys); Form.text(); read_form(text); constant_form(prime, places, "
        "number); place_form(prime, places, at); form_of(poly)"),
    "fillings": (
        "corners(places); corner_at(places, at); index_of(corner); sum_over(form, points); corner_sum(form); "
        "tail_sum(form, coins); round_poly(form, coins); corner_weight(prime, corner, point); "
        "corner_weights(prime, point); filling(prime, table); table_of(form); filling_at(prime, table, "
        "point); fold(prime, table, number); is_low(form)"),
    "claims": (
        "Claim(form, *, degrees=None, total=None); Claim.true_total(); Claim.is_true(); Claim.error(); "
        "Claim.with_total(total); Claim.text(); read_claim(text); table_claim(prime, table, total=None)"),
    "journals": (
        "Journal(prime, total, rounds); Journal.owed(); Journal.cut(at); Journal.replaced(at, poly, *, "
        "coin=None); Journal.extended(poly, coin); Journal.text(); read_journal(text)"),
    "judging": (
        "judge(claim, journal); is_let_by(claim, journal); Asker(claim); Asker.take(poly, coin); "
        "Asker.finish()"),
    "tellers": (
        "Teller(prime); Honest(claim); Told(prime, polys); Rows(prime, rows); Changed(inner, at, poly); "
        "Counted(inner); talk(claim, teller, coins); hand_ins(teller, coins)"),
    "counts": (
        "let_by_rows(claim, teller); share_of(claim, teller); round_roots(prime, degree); "
        "counting_rounds(prime, degrees); rule_share(prime, degrees); liar_share(claim); search_cost(prime, "
        "degrees); best_count(claim); search_share(claim); zero_points(form); zero_share(form); "
        "zero_bound(prime, degrees); zero_form(prime, degrees); best_teller(claim)"),
    "liars": (
        "unit_poly(prime, numbers); best_unit(prime, degree); Paper(prime, units); Paper.root_counts(); "
        "Paper.share(); Paper.text(); read_paper(text); is_paper(claim, paper); best_paper(claim); "
        "Liar(claim, paper); Liar.hand(coins); error_row(claim, paper, coins); difference_polys(claim, "
        "journal); lucky_round(claim, journal)"),
    "batches": (
        "Batch(claims); Batch.errors(); Batch.is_true(); Batch.combined(numbers); Batch.combined_by(number); "
        "powers(prime, number, many); bad_numbers(batch); batch_share(batch); free_share(batch); "
        "worst_errors(prime, many); worst_batch_share(prime, many, degrees); batch_rows(batch); "
        "mix_journals(journals, numbers)"),
    "sides": (
        "side_schedule(claims); SideTeller(claims, tellers); SideTeller.hand(coins); side_talk(claims, "
        "teller, coins); side_let_by(claims, journals); side_share(claims); side_share_of(claims, teller)"),
    "formulas": (
        "is_formula(value); word_count(formula); highest_place(formula); write_formula(formula); "
        "read_formula(text); holds(formula, corner); occurrences(formula, places); models(formula, places); "
        "formula_form(formula, prime, places); counting_claim(formula, prime, places, *, count=None)"),
    "exact": (
        "least_primes(places); are_enough(primes, places); residues(count, primes); from_residues(primes, "
        "remainders); count_journals(formula, places, primes, coin_rows); judge_count(formula, places, count, "
        "parts); lie_share(formula, places, primes, count); best_lie(formula, places, primes)"),
    "circuits": (
        "Circuit(layers, width); Circuit.bits(layer); Circuit.text(); read_circuit(text); "
        "circuit_values(circuit, prime, inputs); layer_form(circuit, prime, inputs, layer, z); "
        "wiring_at(circuit, prime, layer, kind, z, x, y)"),
    "layers": (
        "line_polys(prime, a, b); line_point(prime, a, b, number); line_poly(prime, table, a, b); "
        "layer_schedule(circuit); coin_total(circuit); LayerJournal(prime, outputs, start, rounds); "
        "LayerJournal.cut(at); LayerJournal.replaced(at, poly, *, coin=None); LayerJournal.text(); "
        "read_layer_journal(text); judge_layers(circuit, journal, inputs); layer_talk(circuit, teller, "
        "coins); layer_claim(circuit, prime, inputs, layer, z, number); layer_part(circuit, journal, layer)"),
    "layertellers": (
        "true_owed(circuit, prime, inputs, coins); true_hand_in(circuit, prime, inputs, coins); "
        "LayerHonest(circuit, prime, inputs); LayerLiar(circuit, prime, inputs, outputs); "
        "LayerLiar.hand(coins); LayerTold(prime, outputs, rows)"),
    "layershares": (
        "layer_rows(circuit, teller, inputs); layer_share_of(circuit, teller, inputs); layer_bound(circuit, "
        "prime); layer_search_cost(circuit, prime); layer_search(circuit, prime, inputs, outputs); "
        "lucky_hand_in(circuit, journal, inputs)"),
    "ahead": (
        "Rule(prime, first, factor); told_coin(claim, rule, polys); judge_ahead(claim, rule, journal); "
        "talk_ahead(claim, teller, rule); all_ahead(claim, rule)"),
    "changes": (
        "changed_table(prime, table, at, step); changed_claim(claim, corner, step); patched(journal, corner, "
        "step); changed_rounds(prime, corner, coins); Folding(prime, table); Folding.next_poly(); "
        "Folding.take(coin); play_folding(prime, table, coins); talk_work(degrees); journal_work(journal); "
        "short_form(poly); shortened(journal); lengthened(prime, total, shorts, coins)"),
    "book": (
        "verdict_text(verdict); Book(prime); Book.entries(); Book.put_form(name, form); Book.put_claim(name, "
        "of, *, degrees=None, total=None); Book.file_journal(name, of, journal); Book.form_named(name); "
        "Book.claim_named(name); Book.journal_named(name); Book.verdict_of(name); Book.undo(); Book.redo(); "
        "Book.twin(); Book.differences(other); Book.audit(); replay(prime, entries); audit(prime, entries)"),
    "script": (
        "Desk(prime); Desk.run(text); transcript(prime, text); check_transcript(prime, text)"),
}


def imports_of(name):
    """The pairs of a module that a file imports from, and a name."""
    tree = ast.parse((FOLDER / f"{name}.py").read_text())
    pairs = []
    for node in ast.walk(tree):
        if isinstance(node, ast.Import):
            pairs += [(part.name, "") for part in node.names]
        if isinstance(node, ast.ImportFrom):
            pairs += [(node.module, part.name) for part in node.names]
    return pairs


class Program(Case):
    def test_modules(self):
        names = {name for stage in STAGES for name in stage.split(" ")}
        self.same({path.name for path in FOLDER.iterdir() if path.name != "__pycache__"},
                  {f"{name}.py" for name in names | {"__init__"}})
        self.same(set(INTERFACE) | {"errors", "checks"}, names)

    def test_a_module_uses_its_own_and_earlier_stages_only(self):
        number = {name: at for at, stage in enumerate(STAGES) for name in stage.split(" ")}
        for name in number:
            for module, _ in imports_of(name):
                if module != "math":
                    package, other = module.split(".")
                    self.same(package, "sumtalk")
                    self.assertLessEqual(number[other], number[name])

    def test_nothing_from_outside(self):
        outside = {pair for path in FOLDER.glob("*.py") for pair in imports_of(path.stem)
                   if not pair[0].startswith("sumtalk.")}
        self.same(outside, {("math", "gcd")})

    def test_names_and_arguments_of_the_interface(self):
        for name, listed in INTERFACE.items():
            module = importlib.import_module(f"sumtalk.{name}")
            for entry in listed.split("; "):
                called, arguments = entry.rstrip(")").split("(")
                with self.subTest(f"{name}.{entry}"):
                    first, _, method = called.partition(".")
                    thing = getattr(module, first)
                    self.same(thing.__module__, f"sumtalk.{name}")
                    if method:
                        arguments = ", ".join(["self"] + [arguments] * bool(arguments))
                        thing = vars(thing)[method]
                    self.same(str(inspect.signature(thing)), f"({arguments})")

    def test_every_reader_takes_no_other_thing(self):
        found = 0
        for name, listed in INTERFACE.items():
            module = importlib.import_module(f"sumtalk.{name}")
            for entry in listed.split("; "):
                if entry.startswith("read_"):
                    found += 1
                    reader = getattr(module, entry.split("(")[0])
                    for wrong in (None, 1, True, b"5", ["5"], ("5",), "\n", " ", "  ", "x" * 20001, "1" * 20001,
                                  "5 " * 10001, "\t", "5\t1", "\u0665", "\u00b2", "5 \u0661", "5\r\n1", "+5", "_5",
                                  "5_0", "-5", "- -", "5 -1"):
                        with self.subTest(f"{entry} {wrong!r}"[:60]):
                            self.error(BadText, reader, wrong)
        self.same(found, 11)

    def test_examples_of_the_readme(self):
        text = (FOLDER.parent / "README.md").read_text()
        # The marks around an example would be taken for what it prints.
        example = doctest.DocTestParser().get_doctest(text.replace("```", ""), {}, "README", None, None)
        self.assertGreater(len(example.examples), 40)
        self.same(doctest.DocTestRunner().run(example).failed, 0)
