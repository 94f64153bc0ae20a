"""Points 80 and 81: what a desk is asked, what it keeps and drops, and its report."""

import unittest

from allmends.cases import enough
from allmends.desk import Desk, replay
from allmends.errors import InvalidPlaces, Mismatch, TooLarge, TooLong, TooManyCases, UnknownName
from allmends.notation import print_program
from allmends.sets import least_sets
from allmends.tables import print_contract
from tests.samples import (
    FAR, LARGE, RULES, SOURCE, heavy_pair, large_program, open_contract, sample_contract, sample_program,
)

ONE = ("number", 1)
LOUD = print_contract(open_contract(silence=False).with_row(0, ("write", 0), None))


def filled():
    desk = Desk()
    desk.add_program("echo", SOURCE)
    desk.add_contract("rules", RULES)
    return desk


class AskTest(unittest.TestCase):
    def test_the_answer_is_that_of_enough(self):
        desk = filled()
        for places in ([], [0], [1], [1, 0], (0, 1)):
            answer = desk.ask("echo", "rules", places)
            self.assertEqual(vars(answer), vars(enough(sample_program(), sample_contract(), places)))
            lists = desk.ask_sets("echo", "rules", places)
            self.assertEqual(vars(lists), vars(least_sets(sample_program(), sample_contract(), places)))

    def test_as_they_are_now(self):
        desk = filled()
        self.assertFalse(desk.ask("echo", "rules", [1]).enough)
        desk.amend("echo", 0, ("name", "x"))
        self.assertTrue(desk.ask("echo", "rules", [1]).enough)
        desk.set_row("rules", 1, ("write", 0), None)
        self.assertFalse(desk.ask("echo", "rules", [1]).enough)
        desk.undo()
        self.assertTrue(desk.ask("echo", "rules", [1]).enough)

    def test_the_limit(self):
        desk = filled()
        self.assertEqual(desk.ask("echo", "rules", [0, 1], limit=9).cases, 9)
        for limit in (0, 8):
            with self.assertRaises(TooManyCases) as caught:
                desk.ask("echo", "rules", [0, 1], limit=limit)
            self.assertEqual(caught.exception.limit, limit)
            with self.assertRaises(TooManyCases):
                desk.ask_sets("echo", "rules", [0, 1], limit=limit)
        self.assertEqual(desk.searches, 1)


class RefusalTest(unittest.TestCase):
    def refusals(self, ask, desk):
        """All refusals that come before anything kept is looked up, two of them due at once where that can be."""
        for program, contract, name in (("none", "none", "none"), ("none", "rules", "none"), ("echo", "none", "none"),
                                        ("rules", "echo", "rules"), ("echo", "echo", "echo"), ("", "", "")):
            with self.assertRaises(UnknownName) as caught:
                ask(program, contract, [9, 9])
            self.assertEqual(caught.exception.name, name)
        with self.assertRaises(UnknownName) as caught:
            ask("one", "other", [])
        self.assertEqual(caught.exception.name, "one")
        with self.assertRaises(Mismatch):
            ask("echo", "narrow", [9, 9])
        for places, place in (([2], 2), ([1, 0, 1], 1), ([-1, 0], -1), ([0, 0, 9], 0), ([0, 9, 0], 9)):
            with self.assertRaises(InvalidPlaces) as caught:
                ask("echo", "rules", places)
            self.assertEqual(caught.exception.place, place)

    def test_which_comes_first(self):
        desk = filled()
        desk.add_contract("narrow", LOUD)
        self.refusals(desk.ask, desk)
        self.refusals(desk.ask_sets, desk)
        self.assertEqual((desk.searches, desk.report()), (0, ""))

    def test_which_comes_first_where_an_answer_is_kept(self):
        desk = filled()
        desk.add_contract("narrow", LOUD)
        for places in ([], [0], [1], [0, 1]):
            desk.ask("echo", "rules", places)
            desk.ask_sets("echo", "rules", places)
        before = desk.report()
        self.refusals(desk.ask, desk)
        self.refusals(desk.ask_sets, desk)
        self.assertEqual((desk.searches, desk.report()), (8, before))

    def test_the_weight_and_the_field(self):
        program, contract = heavy_pair()
        desk = Desk()
        desk.add_program("heavy", print_program(program))
        desk.add_contract("rules", print_contract(contract))
        with self.assertRaises(InvalidPlaces):
            desk.ask("heavy", "rules", [0, 0])
        with self.assertRaises(InvalidPlaces):
            desk.ask_sets("heavy", "rules", [0, 1, 2, 3, 4, 5, 6, 7, 8, 8])
        for ask, places, what in ((desk.ask, [0], "weight"), (desk.ask, range(9), "weight"),
                                  (desk.ask_sets, range(9), "field"), (desk.ask_sets, range(8), "weight")):
            with self.assertRaises(TooLarge) as caught:
                ask("heavy", "rules", places)
            self.assertEqual(caught.exception.what, what)
        self.assertEqual(desk.searches, 0)

    def test_too_long(self):
        desk = Desk()
        desk.add_program("far", FAR.format(1))
        desk.add_contract("loud", LOUD)
        for ask in (desk.ask, desk.ask_sets):
            with self.assertRaises(TooLong) as caught:
                ask("far", "loud", [])
            self.assertEqual(caught.exception.what, "stream")
        self.assertEqual((desk.searches, desk.report()), (0, ""))


class KeptTest(unittest.TestCase):
    def test_the_same_question_is_not_searched_again(self):
        desk = filled()
        first = desk.ask("echo", "rules", [1, 0])
        self.assertEqual(desk.searches, 1)
        for places in ([1, 0], [0, 1], (0, 1), (1, 0)):
            self.assertIs(desk.ask("echo", "rules", places), first)
        self.assertIs(desk.ask("echo", "rules", [0, 1], limit=64), first)
        self.assertEqual(desk.searches, 1)
        lists = desk.ask_sets("echo", "rules", [1, 0])
        self.assertIs(desk.ask_sets("echo", "rules", (0, 1)), lists)
        self.assertEqual(desk.searches, 2)

    def test_another_question_is(self):
        desk = filled()
        desk.add_program("other", SOURCE)
        desk.add_contract("same", RULES)
        found = [
            desk.ask("echo", "rules", [0, 1]), desk.ask("echo", "rules", [0, 1], limit=63), desk.ask("echo", "rules", [1]),
            desk.ask("other", "rules", [0, 1]), desk.ask("echo", "same", [0, 1]), desk.ask("other", "same", [0, 1]),
        ]
        self.assertEqual(desk.searches, 6)
        self.assertEqual(len({id(answer) for answer in found}), 6)
        self.assertEqual(len(desk.report().splitlines()), 6)

    def test_answers_that_were_asked_for_inside_are_not_kept(self):
        desk = filled()
        desk.ask_sets("echo", "rules", [0, 1])
        self.assertEqual((desk.searches, desk.report()), (1, ""))
        desk.ask("echo", "rules", [0, 1])
        desk.ask("echo", "rules", [])
        self.assertEqual(desk.searches, 3)
        # And the other way round.
        desk.ask_sets("echo", "rules", [0])
        self.assertEqual(desk.searches, 4)

    def test_a_question_that_raises_is_no_search(self):
        desk = filled()
        for _ in range(2):
            self.assertRaises(TooManyCases, desk.ask, "echo", "rules", [0, 1], limit=3)
            self.assertRaises(TooManyCases, desk.ask_sets, "echo", "rules", [0, 1], limit=3)
        self.assertEqual((desk.searches, desk.report()), (0, ""))
        desk.ask("echo", "rules", [0, 1])
        self.assertRaises(TooManyCases, desk.ask, "echo", "rules", [0, 1], limit=3)
        self.assertEqual(desk.searches, 1)


class DropTest(unittest.TestCase):
    def setUp(self):
        self.desk = filled()
        self.answer = self.desk.ask("echo", "rules", [1])
        self.lists = self.desk.ask_sets("echo", "rules", [1])

    def kept(self, places=(1,)):
        """Whether the answer and the lists are kept, as far as a search tells; what was dropped is asked anew."""
        found = []
        for ask in (self.desk.ask, self.desk.ask_sets):
            before = self.desk.searches
            ask("echo", "rules", places)
            found.append(self.desk.searches == before)
        return tuple(found)

    def test_deeds_that_touch_nothing_that_was_used(self):
        desk = self.desk
        desk.amend("echo", 0, ("-", ("name", "x"), ("name", "x")))
        # Place 1 has its elder value where the lists of sets ask for no place at all.
        desk.amend("echo", 1, ("number", 0))
        desk.amend("echo", 1, ("*", ("name", "x"), ("number", 3)))
        desk.set_row("rules", 1, ("write", 1), None)
        desk.set_row("rules", 3, ("read", 0), 0)
        desk.set_flags("rules", 0, finish=True, silence=True)
        desk.set_flags("rules", 1)
        desk.add_program("other", SOURCE)
        desk.add_contract("rulestwo", RULES)
        desk.amend("other", 0, ONE)
        desk.set_row("rulestwo", 0, ("over",), None)
        self.assertEqual(self.kept(), (True, True))
        self.assertIs(desk.ask("echo", "rules", [1]), self.answer)
        self.assertIs(desk.ask_sets("echo", "rules", [1]), self.lists)

    def test_an_amendment_at_a_place_that_was_asked(self):
        # It never touches an answer, but the lists, which ask for less, too.
        self.desk.amend("echo", 1, ONE)
        self.assertIs(self.desk.ask("echo", "rules", [1]), self.answer)
        self.assertEqual(self.kept(), (True, False))

    def test_an_entry(self):
        self.desk.amend("echo", 0, ("name", "x"))
        self.assertEqual(self.kept(), (False, False))

    def test_a_row(self):
        for state, event, target in ((0, ("over",), None), (0, ("read", 0), 2), (2, ("write", 0), 4), (1, ("write", 0), 3)):
            self.setUp()
            self.desk.set_row("rules", state, event, target)
            self.assertEqual(self.kept(), (False, False), (state, event))
            self.assertEqual(self.kept(), (True, True))

    def test_a_flag(self):
        for flags, kept in (({"finish": False}, False), ({"silence": True}, False), ({"finish": True}, True), ({}, True)):
            self.setUp()
            self.desk.set_flags("rules", 4, **flags)
            self.assertEqual(self.kept(), (kept, kept), flags)

    def test_a_deed_that_changes_nothing(self):
        self.desk.amend("echo", 0, ("number", 0))
        self.desk.amend("echo", 0, ("number", 3))
        self.desk.set_row("rules", 0, ("over",), 3)
        self.desk.set_flags("rules", 4, finish=True)
        self.assertEqual(self.kept(), (True, True))

    def test_a_deed_that_raises(self):
        self.assertRaises(InvalidPlaces, self.desk.amend, "echo", 9, ONE)
        self.assertRaises(UnknownName, self.desk.set_flags, "other", 0, finish=True)
        self.assertEqual(self.kept(), (True, True))

    def test_an_undo_that_touches(self):
        desk = self.desk
        desk.amend("echo", 0, ("name", "x"))
        later = desk.ask("echo", "rules", [1])
        self.assertTrue(later.enough)
        self.assertEqual(desk.searches, 3)
        desk.undo()
        # What was kept of the amended program goes, and what was dropped before does not come back.
        self.assertEqual(desk.report(), "")
        again = desk.ask("echo", "rules", [1])
        self.assertEqual(desk.searches, 4)
        self.assertIsNot(again, self.answer)
        self.assertEqual(vars(again), vars(self.answer))
        desk.redo()
        self.assertEqual(desk.report(), "")
        self.assertTrue(desk.ask("echo", "rules", [1]).enough)
        self.assertEqual(desk.searches, 5)

    def test_what_was_dropped_does_not_come_back(self):
        desk = self.desk
        for deed in (lambda: desk.amend("echo", 0, ("name", "x")), lambda: desk.set_row("rules", 0, ("over",), None),
                     lambda: desk.set_flags("rules", 4, finish=False)):
            desk.ask("echo", "rules", [1])
            before = desk.searches
            deed()
            desk.undo()
            self.assertEqual(desk.report(), "")
            desk.ask("echo", "rules", [1])
            self.assertEqual(desk.searches, before + 1)

    def test_an_undo_and_a_redo_that_touch_nothing(self):
        desk = self.desk
        desk.amend("echo", 1, ONE)
        desk.undo()
        desk.redo()
        desk.set_flags("rules", 0, finish=True)
        desk.undo()
        desk.undo()
        self.assertIs(desk.ask("echo", "rules", [1]), self.answer)
        # The lists were dropped by the first deed.
        self.assertEqual(self.kept(), (True, False))

    def test_several_steps_each_by_itself(self):
        # Two deeds that together change nothing drop what the first one touches.
        self.desk.amend("echo", 0, ONE)
        self.desk.amend("echo", 0, ("number", 0))
        self.assertEqual(self.kept(), (False, False))

    def test_a_program_or_a_contract_that_goes_away(self):
        for kind in ("program", "contract"):
            desk = Desk()
            first, second = (("program", "echo", SOURCE), ("contract", "rules", RULES))
            deeds = (second, first) if kind == "program" else (first, second)
            for word, name, text in deeds:
                (desk.add_program if word == "program" else desk.add_contract)(name, text)
            desk.ask("echo", "rules", [0, 1])
            desk.ask_sets("echo", "rules", [0, 1])
            self.assertEqual(len(desk.report().splitlines()), 1)
            desk.undo()
            self.assertEqual(desk.report(), "")
            desk.redo()
            self.assertEqual(desk.report(), "")
            desk.ask("echo", "rules", [0, 1])
            desk.ask_sets("echo", "rules", [0, 1])
            self.assertEqual(desk.searches, 4)

    def test_other_names_are_not_dropped(self):
        desk = self.desk
        desk.add_program("rules", SOURCE)
        desk.add_contract("echo", RULES)
        others = [desk.ask("rules", "rules", [1]), desk.ask("echo", "echo", [1]), desk.ask("rules", "echo", [1])]
        desk.amend("echo", 0, ("name", "x"))
        desk.set_row("echo", 0, ("over",), None)
        # Of these only the first one has another program and another contract.
        self.assertIs(desk.ask("rules", "rules", [1]), others[0])
        before = desk.searches
        desk.ask("echo", "echo", [1])
        desk.ask("rules", "echo", [1])
        self.assertEqual(desk.searches, before + 2)

    def test_what_is_kept_is_what_a_search_would_find(self):
        desk = Desk()
        desk.add_program("large", LARGE)
        desk.add_contract("loud", LOUD)
        kept = dropped = 0
        for place in range(len(large_program().places)):
            desk.ask("large", "loud", [10, 14, 31])
            before = desk.searches
            desk.amend("large", place, ("number", 0))
            answer = desk.ask("large", "loud", [10, 14, 31])
            kept += desk.searches == before
            dropped += desk.searches > before
            self.assertEqual(vars(answer), vars(enough(desk.program("large"), desk.contract("loud"), [10, 14, 31])))
            desk.undo()
        self.assertGreater(kept, 5)
        self.assertGreater(dropped, 5)


class ReportTest(unittest.TestCase):
    def test_both_kinds_of_lines(self):
        desk = filled()
        self.assertEqual(desk.report(), "")
        desk.ask("echo", "rules", [1])
        self.assertEqual(desk.report(), "echo under rules: 1 refuted by 2 streams, limit 64\n")
        desk.ask("echo", "rules", [1, 0], limit=400)
        self.assertEqual(
            desk.report(),
            "echo under rules: 0 1 enough, 5 entries, limit 400\necho under rules: 1 refuted by 2 streams, limit 64\n",
        )

    def test_no_places(self):
        desk = filled()
        desk.ask("echo", "rules", [])
        self.assertEqual(desk.report(), "echo under rules: none refuted by 1 streams, limit 64\n")
        desk.add_contract("loose", print_contract(open_contract(2, 2)))
        desk.ask("echo", "loose", [], limit=0)
        self.assertEqual(desk.report().splitlines()[0], "echo under loose: none enough, 0 entries, limit 0")

    def test_different_streams_are_counted(self):
        desk = filled()
        answer = desk.ask("echo", "rules", [0])
        streams = [row[1] for row in answer.tree if row[0] == "breaks"]
        self.assertGreater(len(streams), len(set(streams)))
        self.assertEqual(desk.report(), f"echo under rules: 0 refuted by {len(set(streams))} streams, limit 64\n")

    def test_order(self):
        desk = Desk()
        # Names are put in order as texts, and places as tuples: (0, 1) stands before (1,), and 9 before 10.
        for name in ("b", "a", "a1", "aa"):
            desk.add_program(name, "letters 1 answers 2 proc main() " + "write 1 " * 12 + "end")
        for name in ("z", "c"):
            desk.add_contract(name, print_contract(open_contract()))
        for program, contract, places, limit in (
            ("b", "c", [0], 64), ("aa", "c", [0], 64), ("a1", "c", [0], 64), ("a", "z", [], 1), ("a", "c", [10], 5),
            ("a", "c", [9], 400), ("a", "c", [9], 64), ("a", "c", [1], 64), ("a", "c", [0, 1], 64), ("a", "c", [0], 64),
            ("a", "c", [], 64), ("a", "c", [1, 0, 2], 64), ("a", "c", [9], 100),
        ):
            desk.ask(program, contract, places, limit=limit)
        self.assertEqual([line.split(" enough")[0] + line.split(",")[2] for line in desk.report().splitlines()], [
            "a under c: none limit 64", "a under c: 0 limit 64", "a under c: 0 1 limit 64", "a under c: 0 1 2 limit 64",
            "a under c: 1 limit 64", "a under c: 9 limit 64", "a under c: 9 limit 100", "a under c: 9 limit 400",
            "a under c: 10 limit 5", "a under z: none limit 1", "a1 under c: 0 limit 64", "aa under c: 0 limit 64",
            "b under c: 0 limit 64",
        ])

    def test_lists_of_sets_are_not_reported(self):
        desk = filled()
        desk.ask_sets("echo", "rules", [0, 1])
        self.assertEqual(desk.report(), "")

    def test_a_replayed_desk(self):
        desk = filled()
        desk.ask("echo", "rules", [1])
        other = replay(desk.history)
        self.assertEqual(other.report(), "")
        other.ask("echo", "rules", [1])
        self.assertEqual(other.report(), desk.report())


if __name__ == "__main__":
    unittest.main()
