"""Points 30 to 32: the verdicts, the attributes of a run, and what is refused."""

import unittest

from allmends.changes import Change
from allmends.contracts import Contract
from allmends.edits import Draft
from allmends.errors import InvalidChange, InvalidStream, Mismatch, TooLong
from allmends.notation import parse_program
from allmends.runs import run
from tests.samples import has_only_tuples, open_contract, open_state, sample_contract, sample_program


def told(text, stream=(), contract=None, change=None):
    program = parse_program(text)
    if contract is None:
        contract = open_contract(program.letters, program.answers)
    return run(program, contract, stream, change)


def parts(found):
    return (
        found.verdict, found.breaks, found.events, found.met, found.asked, found.state, found.taken, found.steps
    )


# State 0 may finish and be silent, state 1 neither; a read or a write leads from one to the other.
TURNS = Contract(1, 2, [([1], 1, [1, None], True, True), ([0], 0, [0, 0], False, False)])


class VerdictTest(unittest.TestCase):
    def test_finished(self):
        text = "letters 1 answers 2 global g 2 proc main() write 0 read g end"
        self.assertEqual(
            parts(told(text, (), TURNS)),
            ("finished", False, (("write", 0), ("over",)), ((0, (0,)),), None, 0, 0, 3),
        )
        self.assertEqual(
            parts(told(text, (0, 0), TURNS)),
            ("finished", False, (("write", 0), ("read", 0)), ((0, (0,)),), None, 0, 1, 3),
        )

    def test_bad_finish(self):
        text = "letters 1 answers 2 global g 2 proc main() read g end"
        self.assertEqual(
            parts(told(text, (), TURNS)), ("bad finish", True, (("over",),), (), None, 1, 0, 2)
        )
        self.assertEqual(
            parts(told(text, [0], TURNS)), ("bad finish", True, (("read", 0),), (), None, 1, 1, 2)
        )

    def test_bad_event_of_a_write(self):
        text = "letters 1 answers 2 global g 2 proc main() read g write 0 write 1 - g write 0 end"
        self.assertEqual(
            parts(told(text, [0], TURNS)),
            ("bad event", True, (("read", 0), ("write", 0), ("write", 1)), ((0, (0,)), (1, (0,))), None, 0, 1, 3),
        )
        self.assertEqual((told(text, [], TURNS).verdict, told(text, [], TURNS).state), ("finished", 0))

    def test_bad_event_of_a_read(self):
        contract = Contract(2, 2, [([0, None], None, [0, 0], True, True)])
        text = "letters 2 answers 2 global g 3 proc main() skip read g read g write g end"
        self.assertEqual(
            parts(told(text, [0, 1, 0], contract)),
            ("bad event", True, (("read", 0), ("read", 1)), (), None, 0, 2, 3),
        )
        self.assertEqual(
            parts(told(text, [], contract)), ("bad event", True, (("over",),), (), None, 0, 0, 2)
        )

    def test_endless(self):
        text = "letters 1 answers 2 global g 2 proc main() read g while 1 do write g g = 0 end end"
        self.assertEqual(
            parts(told(text, (), open_contract(silence=False))),
            ("endless", False, (("over",), ("write", 1), ("write", 0)), ((0, (1,)), (1, (1,)), (2, (1,)), (0, (0,)),
                                                                       (1, (0,)), (2, (0,))), None, 0, 0, 7),
        )
        self.assertEqual(told(text, (0,)).verdict, "endless")
        self.assertEqual(told(text, (0,)).taken, 1)

    def test_silent_and_bad_silence(self):
        text = "letters 1 answers 2 global g 2 proc main() read g while 1 do skip end end"
        turned = Contract(1, 2, [([0], 1, [1, 1], False, False), ([0], 0, [0, 0], False, True)])
        met = ((0, (1,)),)
        self.assertEqual(parts(told(text, (), turned)), ("silent", False, (("over",),), met, None, 1, 0, 3))
        self.assertEqual(
            parts(told(text, (0,), turned)), ("bad silence", True, (("read", 0),), ((0, (0,)),), None, 0, 1, 3)
        )

    def test_a_loop_that_only_reads_behind_the_end_is_silent(self):
        text = "letters 1 answers 2 global g 2 proc main() while 1 do read g end end"
        self.assertEqual(told(text, (0, 0), open_contract(silence=False)).verdict, "bad silence")
        self.assertEqual(told(text, (0, 0), open_contract(silence=False)).events[-1], ("over",))

    def test_asks(self):
        text = "letters 2 answers 2 global g 3 proc main() read g write g end"
        found = told(text, [1], None, Change([0], [(0, (2,), 1)]))
        self.assertEqual(parts(found), ("asks", False, (("read", 1),), (), (0, (1,)), 0, 1, 1))
        found = told(text, [], None, Change([0], [(0, (2,), 1)]))
        self.assertEqual(
            parts(found), ("finished", False, (("over",), ("write", 1)), ((0, (2,)),), None, 0, 0, 3)
        )

    def test_each_statement_with_a_place_asks(self):
        head = "letters 1 answers 2 global g 2 proc main() "
        for body in ("g = 1", "write 1", "if 1 then end", "while 1 do end"):
            found = told(head + body + " end", (), None, Change([0]))
            self.assertEqual(parts(found), ("asks", False, (), (), (0, (0,)), 0, 0, 0), body)

    def test_an_unset_entry_at_a_step_that_is_not_reached(self):
        text = "letters 1 answers 2 proc main() if 0 then write 1 end end"
        self.assertEqual(told(text, (), None, Change([1])).verdict, "finished")

    def test_asks_before_an_event_that_would_be_wrong(self):
        contract = Contract(1, 2, [([None], None, [None, None], True, True)])
        found = told("letters 1 answers 2 proc main() write 1 end", (), contract, Change([0]))
        self.assertEqual(parts(found), ("asks", False, (), (), (0, ()), 0, 0, 0))

    def test_values_of_a_change(self):
        text = "letters 1 answers 4 global g 3 proc main() g = 0 write g if 0 then write 3 end end"
        change = Change([0, 1, 2], [(0, (0,), 2), (1, (2,), 3), (2, (2,), 1)])
        found = told(text, (), None, change)
        self.assertEqual(found.events, (("write", 3), ("write", 3)))
        self.assertEqual(found.met, ((0, (0,)), (1, (2,)), (2, (2,)), (3, (2,))))


class ArgumentsTest(unittest.TestCase):
    TEXT = "letters 1 answers 4 global g 2 proc main() call p(1, 2, 3) write 1 end proc p(a 2, b 3, c 4) end"

    def test_the_first_unset_argument_is_asked(self):
        change = Change([0, 2])
        self.assertEqual(parts(told(self.TEXT, (), None, change)), ("asks", False, (), (), (0, (0,)), 0, 0, 0))

    def test_the_arguments_before_it_are_met(self):
        change = Change([1, 2])
        self.assertEqual(
            parts(told(self.TEXT, (), None, change)), ("asks", False, (), ((0, (0,)),), (1, (0,)), 0, 0, 0)
        )
        change = Change([2, 0], [(0, (0,), 1)])
        self.assertEqual(
            parts(told(self.TEXT, (), None, change)),
            ("asks", False, (), ((0, (0,)), (1, (0,))), (2, (0,)), 0, 0, 0),
        )

    def test_no_argument_unset(self):
        change = Change([1], [(1, (0,), 0)])
        found = told(self.TEXT, (), None, change)
        self.assertEqual((found.verdict, found.met), ("finished", ((0, (0,)), (1, (0,)), (2, (0,)), (3, (0,)))))


class MetTest(unittest.TestCase):
    def test_each_entry_once_in_the_order_of_the_first_use(self):
        text = "letters 1 answers 2 global g 3 proc main() while g < 2 do call p(1) g = g + 1 end write g end " \
            "proc p(a 2) write a end"
        self.assertEqual(
            told(text).met,
            ((0, (0,)), (1, (0,)), (4, (0, 1)), (2, (0,)), (0, (1,)), (1, (1,)), (4, (1, 1)), (2, (1,)), (0, (2,)),
             (3, (2,))),
        )

    def test_an_entry_that_is_used_twice(self):
        text = "letters 1 answers 2 proc main() call p() write 0 call p() end proc p() write 1 end"
        self.assertEqual(told(text).met, ((1, ()), (0, ())))


class KindsTest(unittest.TestCase):
    def test_kinds_of_values(self):
        program = sample_program()
        for stream in ([], [1, 0], (0,)):
            for change in (None, Change([1]), Draft([0])):
                found = run(program, sample_contract(), stream, change)
                self.assertIs(found.breaks, found.verdict.startswith("bad"))
                for value in (found.events, found.met, found.asked):
                    self.assertTrue(has_only_tuples(value), value)
                for value in (found.state, found.taken, found.steps):
                    self.assertIs(type(value), int)

    def test_lists_are_not_modified_and_do_the_same(self):
        stream = [1, 0]
        one = run(sample_program(), sample_contract(), stream)
        before = parts(one)
        self.assertEqual(stream, [1, 0])
        stream.clear()
        self.assertEqual(parts(one), before)
        self.assertEqual(parts(run(sample_program(), sample_contract(), (1, 0))), before)

    def test_a_sight_that_was_passed_as_a_list(self):
        change = Change([1], [(1, [0], 1)])
        found = run(sample_program(), sample_contract(), (), change)
        self.assertEqual((found.verdict, found.met), ("finished", ((0, (2,)), (1, (0,)))))


class RefusalTest(unittest.TestCase):
    def test_mismatch(self):
        program = sample_program()
        for letters, answers in ((1, 2), (3, 2), (2, 3), (2, 4), (1, 3)):
            with self.assertRaises(Mismatch):
                run(program, open_contract(letters, answers), [])

    def test_a_change_that_does_not_fit(self):
        for change in (
            Change([2]), Change([-1]), Change([0], [(0, (3,), 0)]), Change([0], [(0, (0,), 3)]),
            Change([0], [(0, (0,), -1)]), Change([0], [(0, (), 0)]), Draft([2]), Draft([0], [(0, 4)]),
            Draft([0], [(0, -1)]),
        ):
            with self.assertRaises(InvalidChange):
                run(sample_program(), sample_contract(), [], change)

    def test_streams(self):
        for stream in ([2], [0, 1, -1], (3,), [0] * 401, [1] * 500):
            with self.assertRaises(InvalidStream):
                run(sample_program(), sample_contract(), stream)
        self.assertEqual(run(sample_program(), sample_contract(), [0] * 400).verdict, "finished")

    def test_a_letter_that_the_run_does_not_take_counts(self):
        program = parse_program("letters 1 answers 2 proc main() end")
        with self.assertRaises(InvalidStream):
            run(program, open_contract(), [0, 0, 1])

    def test_a_stream_of_400_letters_that_are_all_taken(self):
        program = parse_program("letters 1 answers 2 global g 2 proc main() while g == 0 do read g end end")
        found = run(program, open_contract(), [0] * 400)
        self.assertEqual((found.verdict, found.taken, found.steps), ("finished", 400, 804))

    def test_order(self):
        program = sample_program()
        with self.assertRaises(Mismatch):
            run(program, open_contract(1, 2), [5], Change([7]), steps=0)
        with self.assertRaises(InvalidChange):
            run(program, sample_contract(), [5], Change([7]), steps=0)
        with self.assertRaises(InvalidStream):
            run(program, sample_contract(), [5], None, steps=0)


class StepsTest(unittest.TestCase):
    def assert_steps(self, text, stream, verdict, steps, change=None, contract=None):
        program = parse_program(text)
        contract = contract or open_contract(program.letters, program.answers)
        found = run(program, contract, stream, change, steps=steps)
        self.assertEqual((found.verdict, found.steps), (verdict, steps))
        if steps > 0:
            with self.assertRaises(TooLong) as caught:
                run(program, contract, stream, change, steps=steps - 1)
            self.assertEqual(caught.exception.what, "run")

    def test_exactly_these_steps_for_each_verdict(self):
        head = "letters 1 answers 2 global g 2 proc main() "
        strict = Contract(1, 2, [([None], 0, [0, None], False, False)])
        self.assert_steps(head + "skip skip end", (), "finished", 3)
        self.assert_steps(head + "while 1 do skip end end", (), "silent", 2)
        self.assert_steps(head + "while 1 do write 1 end end", (), "endless", 2)
        self.assert_steps(head + "skip write 1 end", (), "asks", 1, Change([0]))
        self.assert_steps(head + "write 1 end", (), "asks", 0, Change([0]))
        self.assert_steps(head + "skip write 1 end", (), "bad event", 2, None, strict)
        self.assert_steps(head + "read g end", (0,), "bad event", 1, None, strict)
        self.assert_steps(head + "end", (), "bad finish", 1, None, strict)
        self.assert_steps(head + "while 1 do end end", (), "bad silence", 1, None, strict)

    def test_no_steps(self):
        with self.assertRaises(TooLong):
            run(sample_program(), sample_contract(), [], steps=0)
        self.assertEqual(run(sample_program(), sample_contract(), [], Change([1, 0]), steps=1).verdict, "asks")

    def test_more_steps_than_the_run_makes(self):
        self.assertEqual(run(sample_program(), sample_contract(), [0], steps=20000).steps, 4)

    def test_5000_steps_by_default(self):
        # Each letter takes two steps, and each call another number of further ones.
        head = "letters 1 answers 2 global g 2 proc main() local x 2 "
        loop = "while g == 0 do read g call p() end {} end proc p() call q() call q() call q() end proc q() {} end"
        text = head + loop.format("{}", "skip")
        program = parse_program(text.format(""))
        many = 5000 - run(program, open_contract(), [0] * 382, steps=20000).steps
        self.assertTrue(0 <= many < 50, many)
        whole = parse_program(text.format("skip " * many))
        self.assertEqual(run(whole, open_contract(), [0] * 382).steps, 5000)
        more = parse_program(text.format("skip " * (many + 1)))
        with self.assertRaises(TooLong) as caught:
            run(more, open_contract(), [0] * 382)
        self.assertEqual(caught.exception.what, "run")
        self.assertEqual(run(more, open_contract(), [0] * 382, steps=5001).steps, 5001)

    def test_20000_steps(self):
        text = (
            "letters 1 answers 2 global g 2 proc main() while g == 0 do read g call p() end end "
            "proc p() call q() call q() call q() call q() call q() call q() end proc q() call r() call r() end "
            "proc r() skip end"
        )
        program = parse_program(text)
        with self.assertRaises(TooLong):
            run(program, open_contract(), [0] * 400, steps=20000)
        self.assertGreater(run(program, open_contract(), [0] * 380, steps=20000).steps, 19000)


class OpenStateTest(unittest.TestCase):
    def test_the_end_of_a_called_procedure_needs_no_finish(self):
        contract = Contract(1, 2, [open_state(target=1, finish=False), open_state(target=1)])
        found = told("letters 1 answers 2 proc main() call p() write 0 end proc p() end", (), contract)
        self.assertEqual(found.verdict, "finished")


if __name__ == "__main__":
    unittest.main()
