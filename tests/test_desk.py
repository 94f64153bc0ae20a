"""Points 76 to 79: the deeds of a desk, its history, undo, redo and replay."""

import unittest

from allmends.amendments import amended
from allmends.desk import Desk, replay
from allmends.errors import (
    InvalidContract, InvalidName, InvalidPlaces, InvalidProgram, InvalidText, NameTaken, NothingToRedo, NothingToUndo,
    UnknownName,
)
from allmends.notation import print_program
from allmends.tables import print_contract
from tests.samples import RULES, SOURCE, has_only_tuples, sample_contract, sample_program

ONE = ("number", 1)
KEYWORDS = (
    "letters", "answers", "global", "proc", "local", "read", "write", "if", "then", "else", "while", "do", "call",
    "skip", "end", "and", "or", "not",
)


def filled():
    """A desk with a program and a contract."""
    desk = Desk()
    desk.add_program("echo", SOURCE)
    desk.add_contract("rules", RULES)
    return desk


def state_of(desk, programs=("echo", "p", "q"), contracts=("rules", "c", "d")):
    """All that a desk tells, as far as it has these names."""
    found = [desk.history, desk.report(), desk.searches]
    for names, one_of, print_one in ((programs, desk.program, print_program), (contracts, desk.contract, print_contract)):
        for name in names:
            try:
                found.append(print_one(one_of(name)))
            except UnknownName:
                found.append(None)
    return found


class AddTest(unittest.TestCase):
    def test_a_new_desk_is_empty(self):
        desk = Desk()
        self.assertEqual((desk.history, desk.searches, desk.report()), ((), 0, ""))
        self.assertRaises(UnknownName, desk.program, "echo")
        self.assertRaises(UnknownName, desk.contract, "echo")
        self.assertEqual(vars(desk)["history"], ())
        self.assertEqual(vars(desk)["searches"], 0)

    def test_programs_and_contracts(self):
        desk = filled()
        self.assertEqual(print_program(desk.program("echo")), print_program(sample_program()))
        self.assertEqual(desk.contract("rules").states, sample_contract().states)
        self.assertEqual(desk.history, (("program", "echo", SOURCE), ("contract", "rules", RULES)))

    def test_names_of_programs_and_of_contracts_that_are_alike(self):
        desk = Desk()
        desk.add_program("same", SOURCE)
        self.assertRaises(UnknownName, desk.contract, "same")
        desk.add_contract("same", RULES)
        self.assertEqual(desk.program("same").letters, 2)
        self.assertEqual(desk.contract("same").answers, 2)
        self.assertRaises(NameTaken, desk.add_program, "same", SOURCE)
        self.assertRaises(NameTaken, desk.add_contract, "same", RULES)

    def test_names_that_are_no_names(self):
        wrong = ("", "abcdefghi", "1a", "0", "9", "A", "aB", "a b", "a_b", " a", "a ", "a-b", "a\n", "_a", "Echo", "a.b") + KEYWORDS
        for name in wrong:
            desk = Desk()
            for add, text in ((desk.add_program, SOURCE), (desk.add_contract, RULES)):
                with self.assertRaises(InvalidName) as caught:
                    add(name, text)
                self.assertEqual(caught.exception.name, name)
                # The name comes first, whatever the text is.
                self.assertRaises(InvalidName, add, name, "")
            self.assertEqual(desk.history, ())

    def test_names_of_8_characters(self):
        desk = Desk()
        for name in ("abcdefgh", "a", "z9", "a1234567", "endx", "writes", "main"):
            desk.add_program(name, SOURCE)
            desk.add_contract(name, RULES)
            self.assertEqual(desk.program(name).places, sample_program().places)
        self.assertEqual(len(desk.history), 14)

    def test_a_name_that_is_taken(self):
        desk = filled()
        before = state_of(desk)
        for add, name, text in ((desk.add_program, "echo", SOURCE), (desk.add_contract, "rules", RULES),
                                (desk.add_program, "echo", "wrong"), (desk.add_contract, "rules", "")):
            with self.assertRaises(NameTaken) as caught:
                add(name, text)
            self.assertEqual(caught.exception.name, name)
        self.assertEqual(state_of(desk), before)

    def test_what_parsing_raises(self):
        desk = filled()
        before = state_of(desk)
        with self.assertRaises(InvalidText) as caught:
            desk.add_program("p", SOURCE + " x")
        self.assertEqual(caught.exception.position, len(SOURCE) + 1)
        with self.assertRaises(InvalidProgram) as caught:
            desk.add_program("p", SOURCE.replace("letters 2", "letters 4"))
        self.assertEqual(caught.exception.reason, "letters")
        with self.assertRaises(InvalidText) as caught:
            desk.add_contract("c", "letters")
        self.assertEqual(caught.exception.position, 7)
        with self.assertRaises(InvalidContract) as caught:
            desk.add_contract("c", "letters 1 answers 2")
        self.assertEqual(caught.exception.reason, "states")
        self.assertEqual(state_of(desk), before)
        # The name is free still.
        desk.add_program("p", SOURCE)
        desk.add_contract("c", RULES)


class AmendTest(unittest.TestCase):
    def test_amend(self):
        desk = filled()
        self.assertIsNone(desk.amend("echo", 1, ["name", "x"]))
        self.assertEqual(desk.program("echo").places, amended(sample_program(), 1, ("name", "x")).places)
        self.assertEqual(desk.history[2:], (("amend", "echo", 1, ("name", "x")),))

    def test_set_row(self):
        desk = filled()
        self.assertIsNone(desk.set_row("rules", 1, ("write", 1), 3))
        self.assertIsNone(desk.set_row("rules", 0, ("over",), None))
        later = sample_contract().with_row(1, ("write", 1), 3).with_row(0, ("over",), None)
        self.assertEqual(desk.contract("rules").states, later.states)
        self.assertEqual(desk.history[2:], (("row", "rules", 1, ("write", 1), 3), ("row", "rules", 0, ("over",), None)))

    def test_set_flags(self):
        desk = filled()
        self.assertIsNone(desk.set_flags("rules", 0, finish=True))
        self.assertIsNone(desk.set_flags("rules", 1, silence=True))
        self.assertIsNone(desk.set_flags("rules", 4, silence=True, finish=False))
        self.assertIsNone(desk.set_flags("rules", 2))
        later = sample_contract().with_flags(0, finish=True).with_flags(1, silence=True)
        self.assertEqual(desk.contract("rules").states, later.with_flags(4, finish=False, silence=True).states)
        self.assertEqual(desk.history[2:], (
            ("flags", "rules", 0, True, None), ("flags", "rules", 1, None, True), ("flags", "rules", 4, False, True),
            ("flags", "rules", 2, None, None),
        ))

    def test_a_deed_that_changes_nothing(self):
        desk = filled()
        desk.amend("echo", 0, ("number", 0))
        desk.set_row("rules", 0, ("over",), 3)
        desk.set_flags("rules", 0)
        self.assertEqual(len(desk.history), 5)
        self.assertEqual(desk.program("echo").procedures, sample_program().procedures)
        desk.undo()
        self.assertEqual(len(desk.history), 4)

    def test_other_programs_and_contracts_stay_as_they_are(self):
        desk = filled()
        desk.add_program("rules", SOURCE)
        desk.add_contract("echo", RULES)
        desk.amend("echo", 0, ONE)
        desk.set_row("rules", 0, ("over",), None)
        self.assertEqual(desk.program("rules").procedures, sample_program().procedures)
        self.assertEqual(desk.contract("echo").states, sample_contract().states)

    def test_what_was_returned_stays_as_it_is(self):
        desk = filled()
        program, contract = desk.program("echo"), desk.contract("rules")
        desk.amend("echo", 0, ONE)
        desk.set_flags("rules", 0, finish=True)
        self.assertEqual(program.procedures, sample_program().procedures)
        self.assertEqual(contract.states, sample_contract().states)

    def test_unknown_names(self):
        desk = filled()
        before = state_of(desk)
        for deed in (
            lambda name: desk.amend(name, 99, ("name", "nobody")), lambda name: desk.amend(name, 0, ONE),
            lambda name: desk.program(name),
        ):
            for name in ("rules", "", "Echo", "echoes", "if"):
                with self.assertRaises(UnknownName) as caught:
                    deed(name)
                self.assertEqual(caught.exception.name, name)
        for deed in (
            lambda name: desk.set_row(name, 0, ("over",), 99), lambda name: desk.set_flags(name, 0, finish=True),
            lambda name: desk.contract(name),
        ):
            for name in ("echo", "", "Rules", "rule"):
                with self.assertRaises(UnknownName) as caught:
                    deed(name)
                self.assertEqual(caught.exception.name, name)
        self.assertEqual(state_of(desk), before)

    def test_what_amendments_raise(self):
        desk = filled()
        before = state_of(desk)
        with self.assertRaises(InvalidPlaces) as caught:
            desk.amend("echo", 2, ("name", "nobody"))
        self.assertEqual(caught.exception.place, 2)
        with self.assertRaises(InvalidProgram) as caught:
            desk.amend("echo", 1, ("name", "nobody"))
        self.assertEqual(caught.exception.reason, "unknown")
        for target in (5, -1, 99):
            with self.assertRaises(InvalidContract) as caught:
                desk.set_row("rules", 0, ("over",), target)
            self.assertEqual(caught.exception.reason, "target")
        self.assertEqual(state_of(desk), before)


class HistoryTest(unittest.TestCase):
    def test_arguments_are_copied(self):
        desk = filled()
        expression, event = ["+", ["name", "x"], ["number", 1]], ["write", 0]
        desk.amend("echo", 1, expression)
        desk.set_row("rules", 1, event, 0)
        expression[1][1] = "y"
        expression.clear()
        event[1] = 7
        self.assertEqual(desk.history[2:], (
            ("amend", "echo", 1, ("+", ("name", "x"), ("number", 1))), ("row", "rules", 1, ("write", 0), 0),
        ))
        self.assertEqual(desk.program("echo").places[1][3], ("+", ("name", "x"), ("number", 1)))
        self.assertTrue(has_only_tuples(desk.history))

    def test_truth_values_stay_true_and_false(self):
        desk = filled()
        desk.set_flags("rules", 0, finish=False, silence=True)
        self.assertIs(desk.history[-1][3], False)
        self.assertIs(desk.history[-1][4], True)
        self.assertIs(desk.contract("rules").states[0][4], True)

    def test_a_history_that_was_read_stays_as_it_is(self):
        desk = filled()
        before = desk.history
        desk.amend("echo", 0, ONE)
        desk.undo()
        desk.undo()
        self.assertEqual(len(before), 2)
        self.assertEqual(len(desk.history), 1)


class UndoTest(unittest.TestCase):
    def deeds(self, desk):
        """Does all kinds of deeds, and yields behind each of them."""
        for deed in (
            lambda: desk.add_program("p", SOURCE), lambda: desk.add_contract("c", RULES),
            lambda: desk.amend("p", 0, ONE), lambda: desk.set_row("c", 0, ("over",), None),
            lambda: desk.set_flags("c", 1, finish=True), lambda: desk.amend("p", 0, ("name", "x")),
            lambda: desk.add_program("q", SOURCE), lambda: desk.amend("q", 1, ONE),
            lambda: desk.set_row("c", 0, ("over",), 1), lambda: desk.amend("p", 1, ("name", "x")),
        ):
            self.assertIsNone(deed())
            yield

    def test_undo_and_redo_each_deed(self):
        desk = Desk()
        states = [state_of(desk)]
        for _ in self.deeds(desk):
            states.append(state_of(desk))
        for _ in range(2):
            for state in reversed(states[:-1]):
                self.assertIsNone(desk.undo())
                self.assertEqual(state_of(desk), state)
            self.assertRaises(NothingToUndo, desk.undo)
            for state in states[1:]:
                self.assertIsNone(desk.redo())
                self.assertEqual(state_of(desk), state)
            self.assertRaises(NothingToRedo, desk.redo)

    def test_beyond_both_ends(self):
        desk = Desk()
        self.assertRaises(NothingToUndo, desk.undo)
        self.assertRaises(NothingToRedo, desk.redo)
        desk.add_program("p", SOURCE)
        self.assertRaises(NothingToRedo, desk.redo)
        desk.undo()
        self.assertRaises(NothingToUndo, desk.undo)
        self.assertRaises(NothingToUndo, desk.undo)
        desk.redo()
        self.assertRaises(NothingToRedo, desk.redo)
        self.assertEqual(desk.history, (("program", "p", SOURCE),))

    def test_a_new_deed_forgets_what_was_taken_back(self):
        desk = filled()
        desk.amend("echo", 0, ONE)
        desk.amend("echo", 1, ONE)
        desk.undo()
        desk.undo()
        desk.redo()
        desk.set_flags("rules", 0)
        self.assertRaises(NothingToRedo, desk.redo)
        self.assertEqual([deed[0] for deed in desk.history], ["program", "contract", "amend", "flags"])
        desk.undo()
        desk.undo()
        desk.redo()
        self.assertEqual(desk.history[-1], ("amend", "echo", 0, ONE))

    def test_a_deed_that_raises_an_error_does_not(self):
        desk = filled()
        desk.amend("echo", 0, ONE)
        desk.undo()
        for deed, error in (
            (lambda: desk.amend("echo", 9, ONE), InvalidPlaces), (lambda: desk.amend("echo", 0, ("name", "y")), InvalidProgram),
            (lambda: desk.amend("other", 0, ONE), UnknownName), (lambda: desk.add_program("echo", SOURCE), NameTaken),
            (lambda: desk.add_program("If", SOURCE), InvalidName), (lambda: desk.add_contract("c", "x"), InvalidText),
            (lambda: desk.set_row("rules", 0, ("over",), 9), InvalidContract),
            (lambda: desk.set_flags("other", 0), UnknownName), (lambda: desk.program("other"), UnknownName),
        ):
            self.assertRaises(error, deed)
        desk.redo()
        self.assertEqual(desk.history[-1], ("amend", "echo", 0, ONE))
        self.assertEqual(desk.program("echo").places[0][3], ONE)

    def test_questions_are_no_deeds(self):
        desk = filled()
        desk.amend("echo", 0, ONE)
        desk.undo()
        desk.ask("echo", "rules", [1])
        desk.ask_sets("echo", "rules", [1])
        desk.report()
        desk.redo()
        self.assertEqual(len(desk.history), 3)

    def test_names_that_are_free_again(self):
        desk = Desk()
        desk.add_program("p", SOURCE)
        desk.undo()
        self.assertRaises(UnknownName, desk.program, "p")
        self.assertRaises(UnknownName, desk.amend, "p", 0, ONE)
        desk.add_program("p", SOURCE.replace("write 0", "write 1"))
        self.assertEqual(desk.program("p").places[1][3], ONE)
        self.assertRaises(NothingToRedo, desk.redo)


class ReplayTest(unittest.TestCase):
    def test_a_history(self):
        desk = filled()
        desk.amend("echo", 0, ("name", "x"))
        desk.set_row("rules", 1, ("write", 1), None)
        desk.set_flags("rules", 0, finish=True)
        desk.set_flags("rules", 1, silence=False)
        desk.add_program("p", SOURCE)
        desk.amend("p", 1, ONE)
        desk.undo()
        for deeds in (desk.history, list(desk.history)):
            other = replay(deeds)
            self.assertIsInstance(other, Desk)
            self.assertIsNot(other, desk)
            self.assertEqual(state_of(other), state_of(desk))
        # What was taken back is not part of the history.
        self.assertRaises(NothingToRedo, other.redo)
        other.undo()
        self.assertEqual(other.history, desk.history[:-1])
        self.assertEqual(len(desk.history), 7)

    def test_no_deeds(self):
        for none in ((), []):
            self.assertEqual(state_of(replay(none)), state_of(Desk()))

    def test_answers_are_not_part_of_a_history(self):
        desk = filled()
        desk.ask("echo", "rules", [1])
        other = replay(desk.history)
        self.assertEqual((other.searches, other.report()), (0, ""))
        self.assertEqual(desk.searches, 1)

    def test_deeds_that_raise(self):
        program, contract = ("program", "p", SOURCE), ("contract", "c", RULES)
        for deeds, error in (
            ([program, program], NameTaken), ([("program", "P", SOURCE)], InvalidName), ([("program", "p", "x")], InvalidText),
            ([contract, contract], NameTaken), ([program, ("amend", "q", 0, ONE)], UnknownName),
            ([("amend", "p", 0, ONE), program], UnknownName), ([program, ("amend", "p", 2, ONE)], InvalidPlaces),
            ([program, ("amend", "p", 0, ("number", 10))], InvalidProgram), ([program, ("row", "p", 0, ("over",), 0)], UnknownName),
            ([contract, ("row", "c", 0, ("over",), 5)], InvalidContract), ([("flags", "c", 0, None, None)], UnknownName),
        ):
            self.assertRaises(error, replay, deeds)

    def test_the_order_of_the_deeds(self):
        deeds = (("program", "p", SOURCE), ("amend", "p", 0, ONE), ("amend", "p", 0, ("number", 2)))
        self.assertEqual(replay(deeds).program("p").places[0][3], ("number", 2))
        self.assertEqual(replay((deeds[0], deeds[2], deeds[1])).program("p").places[0][3], ONE)


if __name__ == "__main__":
    unittest.main()
