"""Points 69 and 71: programs with another expression, and what is untouched by amendments."""

import unittest

from allmends.amendments import amended, untouched
from allmends.cases import enough
from allmends.changes import Change
from allmends.errors import BoundError, InvalidPlaces, InvalidProgram
from allmends.fates import decide
from allmends.mending import mends
from allmends.notation import parse_expression, parse_program, print_program
from allmends.programs import Program
from allmends.sets import least_sets
from tests.random_programs import Maker
from tests.samples import has_only_tuples, large_program, open_contract, sample_contract, sample_program

NO_ZERO = open_contract(1, 2).with_row(0, ("write", 0), None)
ONE = ("number", 1)


class AmendedTest(unittest.TestCase):
    TEXT = (
        "letters 2 answers 3 global g 3 proc main() local x 4 g = x if g == 1 then write g while x do x = x - 1 end else "
        "call p(g, x) read x end end proc p(a 2, b 4) write a + b if a then skip else write b end end"
    )

    def test_the_example(self):
        later = amended(sample_program(), 0, ("name", "x"))
        self.assertEqual(print_program(later), print_program(sample_program()).replace("x = 0", "x = x"))
        self.assertEqual(print_program(amended(sample_program(), 1, ONE)),
                         print_program(sample_program()).replace("write 0", "write 1"))

    def test_each_place_of_each_role(self):
        program = parse_program(self.TEXT)
        roles = set()
        for place, row in enumerate(program.places):
            new = ("not", ("+", ONE, ("number", 7)))
            later = amended(program, place, new)
            roles.add(row[1])
            # The places and the points keep their numbers, and all other places their expressions.
            self.assertEqual(later.places, program.places[:place] + ((*row[:3], new),) + program.places[place + 1:])
            for number in range(2):
                self.assertEqual(later.points(number), program.points(number))
                self.assertEqual(later.sights(number), program.sights(number))
            self.assertEqual((later.letters, later.answers, later.variables),
                             (program.letters, program.answers, program.variables))
            self.assertIsInstance(later, Program)
        self.assertEqual(roles, {"set", "write", "test", "pass"})

    def test_the_program_stays_as_it_is(self):
        program = parse_program(self.TEXT)
        before = print_program(program)
        amended(program, 0, ONE)
        self.assertEqual(print_program(program), before)
        self.assertEqual(amended(program, 0, program.places[0][3]).places, program.places)

    def test_twice(self):
        program = parse_program(self.TEXT)
        one = amended(amended(program, 0, ONE), 3, ONE)
        other = amended(amended(program, 3, ONE), 0, ONE)
        self.assertEqual(one.procedures, other.procedures)
        self.assertEqual(amended(amended(program, 0, ONE), 0, program.places[0][3]).procedures, program.procedures)

    def test_a_place_that_does_not_exist(self):
        for place in (2, 99, -1):
            with self.assertRaises(InvalidPlaces) as caught:
                amended(sample_program(), place, ONE)
            self.assertEqual(caught.exception.place, place)
        # The place comes first, whatever the expression is.
        self.assertRaises(InvalidPlaces, amended, sample_program(), 2, ("name", "nobody"))
        empty = parse_program("letters 1 answers 2 proc main() end")
        self.assertRaises(InvalidPlaces, amended, empty, 0, ONE)

    def test_each_reason_that_an_expression_can_bring(self):
        deep = ONE
        for _ in range(4):
            deep = ("not", deep)
        self.assertEqual(amended(sample_program(), 0, deep).places[0][3], deep)
        for expression, reason in (
            (("not", deep), "depth"), (("+", ONE, ("not", deep)), "depth"), (("number", 10), "number"),
            (("number", -1), "number"), (("*", ONE, ("number", 99)), "number"), (("name", "y"), "unknown"),
            (("or", ("name", "x"), ("name", "main")), "unknown"), (("name", ""), "unknown"),
        ):
            for place in range(2):
                with self.assertRaises(InvalidProgram) as caught:
                    amended(sample_program(), place, expression)
                self.assertEqual(caught.exception.reason, reason)

    def test_two_reasons_at_once(self):
        deep = ("number", 10)
        for _ in range(5):
            deep = ("+", deep, ("name", "nobody"))
        for expression, reason in ((deep, "depth"), (("+", ("name", "nobody"), ("number", 10)), "number")):
            with self.assertRaises(InvalidProgram) as caught:
                amended(sample_program(), 1, expression)
            self.assertEqual(caught.exception.reason, reason)

    def test_variables_of_another_procedure(self):
        program = parse_program(self.TEXT)
        inner = [place for place, row in enumerate(program.places) if row[0] == 1]
        for place in range(len(program.places)):
            for name, holds in (("g", True), ("a", place in inner), ("x", place not in inner)):
                if holds:
                    self.assertEqual(amended(program, place, ("name", name)).places[place][3], ("name", name))
                else:
                    self.assertRaises(InvalidProgram, amended, program, place, ("name", name))

    def test_a_large_program(self):
        program = large_program()
        for place in range(len(program.places)):
            later = amended(program, place, ("number", 0))
            self.assertEqual(later.places[place][3], ("number", 0))
            self.assertEqual([row[:3] for row in later.places], [row[:3] for row in program.places])
            self.assertTrue(has_only_tuples(later.procedures))


class UntouchedTest(unittest.TestCase):
    USES = (((0, (1,)), (1, (0,))), ((0, ("over",)), (0, ("read", 1)), (2, ("write", 0))),
            (("finish", 4), ("silence", 1)))

    def untouched(self, later=None, contract=None, uses=USES):
        program, rules = sample_program(), sample_contract()
        found = untouched(uses, program, later or program, rules, contract or rules)
        self.assertIs(untouched(uses, later or program, program, contract or rules, rules), found)
        return found

    def test_nothing_amended(self):
        self.assertIs(self.untouched(), True)
        self.assertIs(self.untouched(uses=((), (), ())), True)

    def test_entries(self):
        program = sample_program()
        for text, holds in (("0", True), ("x - x", True), ("x", False), ("x == 1", False), ("x == 0", True),
                            ("x == 2", True), ("3", True), ("2", False)):
            # Only at the sight (1,) the value of place 0 counts.
            self.assertIs(self.untouched(amended(program, 0, parse_expression(text))), holds, text)
        for text, holds in (("x", True), ("x == 1", True), ("x == 0", False), ("1", False), ("2", True)):
            self.assertIs(self.untouched(amended(program, 1, parse_expression(text))), holds, text)
        for entry in self.USES[0]:
            uses = ((entry,), (), ())
            self.assertIs(self.untouched(amended(program, entry[0], ONE), uses=uses), False)
            self.assertIs(self.untouched(amended(program, 1 - entry[0], ONE), uses=uses), True)

    def test_rows(self):
        contract = sample_contract()
        for state, event in self.USES[1]:
            for target in (0, 1, 2, 3, 4, None):
                self.assertIs(self.untouched(contract=contract.with_row(state, event, target)),
                              target == contract.follow(state, event))
        for state, event in ((1, ("over",)), (0, ("read", 0)), (0, ("write", 0)), (2, ("write", 1)), (3, ("write", 0))):
            self.assertIs(self.untouched(contract=contract.with_row(state, event, 0)), True)

    def test_flags(self):
        contract = sample_contract()
        for state in range(5):
            for flag in (True, False):
                self.assertIs(self.untouched(contract=contract.with_flags(state, finish=flag)), state != 4 or flag)
                self.assertIs(self.untouched(contract=contract.with_flags(state, silence=flag)), state != 1 or not flag)

    def test_several_at_once(self):
        program, contract = sample_program(), sample_contract()
        later = amended(program, 0, ONE)
        self.assertIs(self.untouched(later, contract.with_flags(1, silence=True)), False)
        self.assertIs(self.untouched(amended(program, 0, ("number", 3)), contract.with_flags(2, silence=True)), True)
        self.assertIs(self.untouched(program, contract.with_flags(1, silence=True)), False)

    def test_lists(self):
        uses = [[(0, (1,))], [(0, ("over",))], [("finish", 4)]]
        self.assertIs(self.untouched(uses=uses), True)
        self.assertIs(self.untouched(amended(sample_program(), 0, ONE), uses=uses), False)
        self.assertEqual(uses, [[(0, (1,))], [(0, ("over",))], [("finish", 4)]])


class SameAnswerTest(unittest.TestCase):
    """What point 71 promises of the same question, where the uses are untouched."""

    def asked(self, program, contract, places):
        """All that is asked of a program and a contract, with its attributes; None where it is refused."""
        questions = {
            "fate": lambda: vars(decide(program, contract)),
            "fate of a change": lambda: vars(decide(program, contract, Change(places))),
            "answer": lambda: vars(enough(program, contract, places, limit=30)),
            "sets": lambda: vars(least_sets(program, contract, places[:3], limit=30)),
            "mends": lambda: self.part_of_mends(mends(program, contract, places, limit=30)),
        }
        found = {}
        for name, question in questions.items():
            try:
                found[name] = question()
            except BoundError:
                found[name] = None
        return found

    def part_of_mends(self, found):
        return {name: getattr(found, name) for name in ("tree", "cases", "kept", "count", "uses")}

    def test_many_programs(self):
        counted = {}
        for seed in range(250):
            maker = Maker(seed)
            program = maker.program()
            contract = maker.contract(program)
            places = maker.places(program, 0.3)
            found = self.asked(program, contract, places)
            later, other = self.amended_at_random(maker, program, contract)
            after = self.asked(later, other, places)
            for name, one in found.items():
                if one is None:
                    continue
                same = untouched(one["uses"], program, later, contract, other)
                counted[(name, same)] = counted.get((name, same), 0) + 1
                if same:
                    self.assertEqual(after[name], one, (seed, name))
        self.assertEqual(len(counted), 10)
        self.assertGreater(min(counted.values()), 15, counted)

    def amended_at_random(self, maker, program, contract):
        later, other = program, contract
        for _ in range(maker.rng.randint(1, 2)):
            if program.places and maker.rng.random() < 0.5:
                place = maker.rng.randrange(len(program.places))
                names = program.names(program.places[place][0])
                later = amended(later, place, maker.expression(list(names)))
            else:
                other = maker.other_contract(other)
        return later, other

    def test_each_place_and_each_row_of_the_example(self):
        program, contract = sample_program(), sample_contract()
        answer = enough(program, contract, [1])
        # Place 1 is asked: no amendment at it touches the answer.
        for text in ("1", "x", "x == 1", "x < 1"):
            later = amended(program, 1, parse_expression(text))
            self.assertIs(untouched(answer.uses, program, later, contract, contract), True)
            self.assertEqual(vars(enough(later, contract, [1])), vars(answer))
        later = amended(program, 0, ("name", "x"))
        self.assertIs(untouched(answer.uses, program, later, contract, contract), False)
        self.assertNotEqual(vars(enough(later, contract, [1])), vars(answer))
        # Of a change, too; of a list of sets the places of the field are used where they are not asked.
        fate = decide(program, contract, Change([0]))
        self.assertIs(untouched(fate.uses, program, later, contract, contract), True)
        self.assertEqual(vars(decide(later, contract, Change([0]))), vars(fate))
        lists = least_sets(program, contract, [0, 1])
        self.assertIs(untouched(lists.uses, program, later, contract, contract), False)

    def test_a_row_a_flag_and_an_entry_that_change_the_answer(self):
        text = "letters 1 answers 2 global g 2 proc main() read g if g then write 1 end end"
        program = parse_program(text)
        fate = decide(program, NO_ZERO)
        self.assertEqual(fate.word, "keeps")
        for later, contract, word in (
            (amended(program, 1, ("number", 0)), NO_ZERO, "breaks"),
            (program, NO_ZERO.with_row(0, ("write", 1), None), "breaks"),
            (program, NO_ZERO.with_flags(0, finish=False), "breaks"),
            (program, NO_ZERO.with_row(0, ("read", 0), None), "breaks"),
        ):
            self.assertIs(untouched(fate.uses, program, later, NO_ZERO, contract), False)
            self.assertEqual(decide(later, contract).word, word)
        # At the sight (0,) the write is never carried out.
        later = amended(program, 1, ("name", "g"))
        self.assertIs(untouched(fate.uses, program, later, NO_ZERO, NO_ZERO), True)
        self.assertEqual(vars(decide(later, NO_ZERO)), vars(fate))
        # The flag of silence is used, but makes no difference here: touched does not mean changed.
        quiet = NO_ZERO.with_flags(0, silence=False)
        self.assertIs(untouched(fate.uses, program, program, NO_ZERO, quiet), False)
        self.assertEqual(decide(program, quiet).word, "keeps")

    def test_a_large_program(self):
        program = large_program()
        contract = open_contract(silence=False).with_row(0, ("write", 0), None)
        answer = enough(program, contract, [10, 14, 31])
        self.assertTrue(answer.enough)
        kinds = set()
        for place in range(len(program.places)):
            for expression in (("number", 0), ONE):
                later = amended(program, place, expression)
                same = untouched(answer.uses, program, later, contract, contract)
                kinds.add(same)
                if place in (10, 14, 31):
                    self.assertIs(same, True)
                if same:
                    self.assertEqual(vars(enough(later, contract, [10, 14, 31])), vars(answer))
        self.assertEqual(kinds, {True, False})


if __name__ == "__main__":
    unittest.main()
