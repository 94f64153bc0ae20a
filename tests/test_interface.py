"""The examples of the document's interface, and the names and arguments that it lists."""

import importlib
import inspect
import unittest

from allmends.cases import enough
from allmends.changes import Change
from allmends.claims import Claim, claim_text
from allmends.contracts import Contract
from allmends.desk import Desk
from allmends.duality import maximal, transversals
from allmends.editlists import least_edits
from allmends.edits import Draft, edits_at
from allmends.fates import decide
from allmends.mending import mends
from allmends.notation import parse_expression, parse_program, print_program
from allmends.papers import holds
from allmends.play import free_play
from allmends.programs import value_of
from allmends.runs import run
from allmends.sets import least_sets
from tests.samples import sample_contract, sample_program

SIGNATURES = {
    "programs": {
        "Program": "letters, answers, variables, procedures", "Program.names": "self, procedure",
        "Program.sizes": "self, procedure", "Program.sights": "self, procedure", "Program.points": "self, procedure",
        "Program.value_at": "self, place, sight", "value_of": "expression, names, sight",
    },
    "notation": {
        "parse_program": "text", "print_program": "program", "parse_expression": "text",
        "print_expression": "expression",
    },
    "contracts": {
        "Contract": "letters, answers, states", "Contract.follow": "self, state, event",
        "Contract.with_row": "self, state, event, target",
        "Contract.with_flags": "self, state, *, finish=None, silence=None", "both": "first, second",
    },
    "tables": {"parse_contract": "text", "print_contract": "contract"},
    "changes": {
        "Change": "places, entries=()", "Change.value": "self, place, sight",
        "Change.with_entry": "self, place, sight, value", "Change.fits": "self, program",
        "Change.__iter__": "self", "Change.__len__": "self", "Change.__contains__": None, "Change.__eq__": None,
        "turned": "program, change",
    },
    "bounds": {"weight": "program, contract"},
    "edits": {
        "edits_at": "program, place", "apply_edits": "program, edits", "Draft": "field, picks=()",
        "Draft.pick": "self, place", "Draft.with_pick": "self, place, number", "Draft.fits": "self, program",
        "Draft.edits": "self, program",
    },
    "runs": {"run": "program, contract, stream, change=None, *, steps=5000", "Run": None},
    "fates": {"decide": "program, contract, change=None", "Fate": None},
    "papers": {"holds": "program, contract, change, paper"},
    "cases": {"enough": "program, contract, places, *, limit=64", "Answer": None},
    "trees": {"tree_holds": "program, contract, places, tree"},
    "mending": {"mends": "program, contract, places, *, limit=64", "Mends": None},
    "duality": {"minimal": "sets", "maximal": "sets", "transversals": "sets"},
    "sets": {
        "least_sets": "program, contract, field, *, limit=64", "SetLists": None,
        "sets_hold": "program, contract, field, least, mended, greatest, refuted",
    },
    "editlists": {
        "least_edits": "program, contract, field, *, width=2, limit=64", "EditLists": None,
        "draft_tree_holds": "program, contract, field, width, tree",
    },
    "plans": {"plan_holds": "program, contract, places, plan", "spoiling_holds": "program, contract, places, spoiling"},
    "play": {"free_play": "program, contract, places", "Play": None},
    "amendments": {
        "amended": "program, place, expression", "untouched": "uses, program, later, contract, later_contract",
    },
    "claims": {
        "Claim": "enough, places, change, paper, tree", "claim_holds": "program, contract, claim", "claim_text": "claim",
        "parse_claim": "text",
    },
    "desk": {
        "Desk": "", "Desk.add_program": "self, name, text", "Desk.add_contract": "self, name, text",
        "Desk.amend": "self, name, place, expression", "Desk.set_row": "self, name, state, event, target",
        "Desk.set_flags": "self, name, state, *, finish=None, silence=None", "Desk.undo": "self", "Desk.redo": "self",
        "Desk.program": "self, name", "Desk.contract": "self, name",
        "Desk.ask": "self, program, contract, places, *, limit=64",
        "Desk.ask_sets": "self, program, contract, field, *, limit=64", "Desk.report": "self", "replay": "deeds",
    },
}


class ExamplesTest(unittest.TestCase):
    def test_programs(self):
        program = sample_program()
        self.assertEqual(program.places, ((0, "set", 3, ("number", 0)), (0, "write", 2, ("number", 0))))
        self.assertEqual(program.points(0), (("read", 0, 1), ("set", 0, 0, 2), ("write", 1, 3), ("end",)))
        self.assertEqual(value_of(("-", ("name", "x"), ("number", 2)), ["x"], (1,)), -1)

    def test_notation(self):
        self.assertEqual(
            print_program(sample_program()),
            "letters 2\nanswers 2\nproc main()\n  local x 3\n  read x\n  x = 0\n  write 0\nend\n",
        )
        self.assertEqual(
            parse_expression("a - (b - 1) * 2"),
            ("-", ("name", "a"), ("*", ("-", ("name", "b"), ("number", 1)), ("number", 2))),
        )

    def test_contracts(self):
        self.assertEqual(sample_contract().follow(2, ("write", 1)), 4)
        self.assertIsNone(sample_contract().follow(2, ("write", 0)))

    def test_edits(self):
        self.assertEqual(edits_at(sample_program(), 1), (("put", ("number", 1)), ("drop",)))
        self.assertEqual(
            edits_at(sample_program(), 0), (("put", ("number", 1)), ("put", ("number", 2)), ("put", ("name", "x")))
        )

    def test_runs(self):
        result = run(sample_program(), sample_contract(), [1, 0])
        self.assertEqual(
            (result.verdict, result.events, result.met, result.taken, result.steps),
            ("bad event", (("read", 1), ("write", 0)), ((0, (1,)), (1, (0,))), 1, 3),
        )
        self.assertEqual(run(sample_program(), sample_contract(), [], Change([1])).asked, (1, (0,)))

    def test_fates(self):
        program, contract = sample_program(), sample_contract()
        fate = decide(program, contract)
        self.assertEqual((fate.word, fate.stream, fate.verdict), ("breaks", (1,), "bad event"))
        fate = decide(program, contract, Change([0, 1], [(0, (0,), 0)]))
        self.assertEqual(fate.asked, ((0, (1,)), (0, (2,)), (1, (0,))))
        small = parse_program(
            "letters 1 answers 2 global g 2 proc main() call p(1) write g end proc p(a 2) g = a end"
        )
        fate = decide(small, Contract(1, 2, [((0,), 0, (0, 0), True, False)]))
        self.assertEqual(
            fate.paper, (((0, (0,), 0, False), (), 1), ((1, (0, 1), 0, False), (((1,), 0, False, True),), 0))
        )
        self.assertEqual(
            fate.uses,
            (((0, (0,)), (1, (1,)), (2, (0, 1))), ((0, ("write", 1)),), (("finish", 0), ("silence", 0))),
        )

    def test_papers(self):
        entries = [(0, (0,), 0), (0, (1,), 1), (0, (2,), 0), (1, (0,), 0), (1, (1,), 1)]
        paper = [((0, (0,), 0, False), (), 0)]
        self.assertIs(holds(sample_program(), sample_contract(), Change([0, 1], entries), paper), True)

    def test_cases(self):
        answer = enough(sample_program(), sample_contract(), [1])
        self.assertEqual(
            (answer.enough, answer.tree),
            (False, (("ask", 1, (0,), (1, 2)), ("breaks", (1,), "bad event"), ("breaks", (0,), "bad event"))),
        )
        answer = enough(sample_program(), sample_contract(), [1, 0])
        self.assertEqual(
            (answer.enough, answer.places, answer.cases, answer.paper),
            (True, (0, 1), 9, (((0, (0,), 0, False), (), 0),)),
        )
        self.assertEqual(
            list(answer.change), [(0, (0,), 0), (0, (1,), 1), (0, (2,), 0), (1, (0,), 0), (1, (1,), 1)]
        )

    def test_duality(self):
        self.assertEqual(transversals([(0, 1), (2, 1)]), ((1,), (0, 2)))
        self.assertEqual(
            (transversals([]), transversals([(3,), ()]), maximal([(0,), (1, 0), (0,)])), (((),), (), ((0, 1),))
        )

    def test_sets(self):
        lists = least_sets(sample_program(), sample_contract(), [0, 1])
        self.assertEqual(
            (lists.least, lists.greatest, lists.asked), (((0, 1),), ((0,), (1,)), ((), (0,), (0, 1), (1,)))
        )

    def test_play(self):
        self.assertIs(free_play(sample_program(), sample_contract(), [1]).enough, True)
        self.assertIs(free_play(sample_program(), sample_contract(), [0]).enough, False)

    def test_claims(self):
        self.assertEqual(
            claim_text(enough(sample_program(), sample_contract(), [1])),
            "refuted 1\nask 1 1 2 at 0\nbreaks event 1\nbreaks event 0\n",
        )


class AttributesTest(unittest.TestCase):
    def test_attributes_are_set_when_the_object_is_created(self):
        program, contract = sample_program(), sample_contract()
        for found, names in (
            (run(program, contract, []), "verdict breaks events met asked state taken steps"),
            (decide(program, contract), "word stream verdict asked paper uses"),
            (Draft([0]), "field picks"),
            (enough(program, contract, [1]), "enough places change paper tree cases uses"),
            (enough(program, contract, [0, 1]), "enough places change paper tree cases uses"),
            (mends(program, contract, [1]), "places tree cases uses kept count least closest"),
            (least_sets(program, contract, [0]), "field least greatest mended refuted asked uses"),
            (least_edits(program, contract, [0]), "field width tree cases uses kept picks least"),
            (free_play(program, contract, [1]), "enough places plan spoiling"),
            (free_play(program, contract, [0]), "enough places plan spoiling"),
            (Claim(True, [1], None, (), ()), "enough places change paper tree"),
            (Desk(), "history searches"),
        ):
            for name in names.split():
                self.assertIn(name, vars(found))


class SignaturesTest(unittest.TestCase):
    def test_names_and_arguments(self):
        for file, listed in SIGNATURES.items():
            module = importlib.import_module(f"allmends.{file}")
            for name, arguments in listed.items():
                found = module
                for part in name.split("."):
                    # What a class lists stands in the class itself, not in one above it.
                    found = vars(found)[part]
                self.assertEqual(found.__module__, f"allmends.{file}")
                if arguments is not None:
                    self.assertEqual(str(inspect.signature(found)), f"({arguments})")


if __name__ == "__main__":
    unittest.main()
