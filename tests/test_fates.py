"""Points 33 to 36: the fate of a program, with and without a change, for streams of every length."""

import itertools
import unittest

from allmends.bounds import weight
from allmends.changes import Change
from allmends.contracts import Contract
from allmends.edits import Draft
from allmends.errors import InvalidChange, Mismatch, TooLarge, TooLong
from allmends.fates import decide
from allmends.notation import parse_program
from allmends.papers import holds
from allmends.runs import run
from allmends.tables import parse_contract
from tests.samples import has_only_tuples, open_contract, open_state, sample_contract, sample_program


def fate(text, contract=None, change=None):
    program = parse_program(text)
    if contract is None:
        contract = open_contract(program.letters, program.answers)
    return decide(program, contract, change)


def parts(found):
    return (found.word, found.stream, found.verdict, found.asked)


KEPT = ("keeps", None, None, ())
# Every event is right but the writing of 0.
NO_ZERO = open_contract(1, 2).with_row(0, ("write", 0), None)
NO_ZERO_2 = open_contract(2, 2).with_row(0, ("write", 0), None)


class FateTest(unittest.TestCase):
    def test_the_example_breaks(self):
        self.assertEqual(parts(decide(sample_program(), sample_contract())), ("breaks", (1,), "bad event", ()))

    def test_the_example_with_a_whole_change(self):
        good = [(0, (0,), 0), (0, (1,), 1), (0, (2,), 0), (1, (0,), 0), (1, (1,), 1), (1, (2,), 1)]
        found = decide(sample_program(), sample_contract(), Change([0, 1], good))
        self.assertEqual(parts(found), KEPT)
        bad = good[:4] + [(1, (1,), 0)] + good[5:]
        found = decide(sample_program(), sample_contract(), Change([0, 1], bad))
        self.assertEqual(parts(found), ("breaks", (1,), "bad event", ()))

    def test_the_example_with_partial_changes(self):
        def told(entries):
            return parts(decide(sample_program(), sample_contract(), Change([0, 1], entries)))

        self.assertEqual(told([]), ("asks", None, None, ((0, (0,)), (0, (1,)), (0, (2,)))))
        self.assertEqual(told([(0, (0,), 0)]), ("asks", None, None, ((0, (1,)), (0, (2,)), (1, (0,)))))
        # An entry that no run meets need not be set.
        kept = [(0, (0,), 0), (0, (1,), 1), (0, (2,), 0), (1, (0,), 0), (1, (1,), 1)]
        self.assertEqual(told(kept), KEPT)
        self.assertEqual(told(kept[:3] + [(1, (0,), 1)])[:2], ("breaks", (0,)))

    def test_breaking_comes_before_asking(self):
        program = parse_program("letters 2 answers 2 global g 3 proc main() read g write g end")
        contract = NO_ZERO_2
        found = decide(program, contract, Change([0], [(0, (1,), 0)]))
        self.assertEqual(parts(found), ("breaks", (1,), "bad event", ()))
        found = decide(program, contract, Change([0], [(0, (1,), 1)]))
        self.assertEqual(parts(found), ("asks", None, None, ((0, (0,)), (0, (2,)))))

    def test_entries_asked_on_different_streams(self):
        text = "letters 2 answers 2 global g 3 proc main() read g if g == 0 then write 1 else read g g = 0 end end"
        found = fate(text, None, Change([1, 2]))
        self.assertEqual(parts(found), ("asks", None, None, ((1, (0,)), (2, (0,)), (2, (1,)), (2, (2,)))))

    def test_the_first_unset_argument_is_asked(self):
        text = "letters 1 answers 2 global g 2 proc main() read g call p(g, 1) end proc p(a 2, b 2) write a end"
        found = fate(text, None, Change([0, 1], [(0, (1,), 0)]))
        self.assertEqual(found.asked, ((0, (0,)), (1, (1,))))

    def test_no_run_comes_to_an_unset_entry(self):
        text = "letters 1 answers 2 proc main() if 0 then write 1 end end"
        self.assertEqual(parts(fate(text, None, Change([1]))), KEPT)

    def test_behind_a_run_that_stops_nothing_is_asked(self):
        text = "letters 1 answers 2 global g 2 proc main() g = 1 while 1 do end write 1 end"
        self.assertEqual(parts(fate(text, None, Change([2]))), KEPT)
        self.assertEqual(fate(text, None, Change([0, 2])).asked, ((0, (0,)),))

    def test_each_verdict_that_breaks(self):
        head = "letters 1 answers 2 global g 2 proc main() "
        self.assertEqual(parts(fate(head + "write 0 end", NO_ZERO)), ("breaks", (), "bad event", ()))
        self.assertEqual(
            parts(fate(head + "skip end", open_contract(finish=False))), ("breaks", (), "bad finish", ())
        )
        self.assertEqual(
            parts(fate(head + "while 1 do end end", open_contract(silence=False))), ("breaks", (), "bad silence", ())
        )
        no_read = open_contract().with_row(0, ("read", 0), None)
        self.assertEqual(parts(fate(head + "read g end", no_read)), ("breaks", (0,), "bad event", ()))
        no_over = open_contract().with_row(0, ("over",), None)
        self.assertEqual(parts(fate(head + "read g end", no_over)), ("breaks", (), "bad event", ()))

    def test_each_verdict_that_does_not(self):
        head = "letters 1 answers 2 global g 2 proc main() "
        self.assertEqual(parts(fate(head + "end", open_contract(silence=False))), KEPT)
        self.assertEqual(parts(fate(head + "while 1 do write 1 end end", open_contract(1, 2, finish=False,
                                                                                       silence=False))), KEPT)
        self.assertEqual(parts(fate(head + "while 1 do skip end end", open_contract(finish=False))), KEPT)


class LeastStreamTest(unittest.TestCase):
    def test_not_the_first_of_its_length(self):
        text = (
            "letters 3 answers 2 global g 4 global h 4 proc main() read g read h "
            "if g == 1 and h == 2 or g == 2 and h == 0 then write 0 end end"
        )
        found = fate(text, open_contract(3, 2).with_row(0, ("write", 0), None))
        self.assertEqual(parts(found), ("breaks", (1, 2), "bad event", ()))

    def test_a_shorter_one_comes_before_a_smaller_one(self):
        text = (
            "letters 2 answers 2 global g 3 proc main() read g if g == 1 then write 0 else "
            "read g if g == 0 then write 0 end end end"
        )
        self.assertEqual(fate(text, NO_ZERO_2).stream, (1,))

    def test_letters_that_are_not_read_do_not_count(self):
        text = "letters 2 answers 2 global g 3 proc main() read g read g if g == 2 then write 0 end end"
        self.assertEqual(fate(text, NO_ZERO_2).stream, ())
        text = "letters 2 answers 2 global g 3 proc main() read g if g < 2 then read g if g == 2 then write 0 end end end"
        self.assertEqual(fate(text, NO_ZERO_2).stream, (0,))

    def test_the_least_of_different_faults(self):
        text = (
            "letters 2 answers 2 global g 3 proc main() read g if g == 0 then while 1 do end end "
            "if g == 1 then write 0 end end"
        )
        strict = NO_ZERO_2.with_flags(0, silence=False)
        self.assertEqual(parts(fate(text, strict)), ("breaks", (0,), "bad silence", ()))
        self.assertEqual(parts(fate(text, NO_ZERO_2)), ("breaks", (1,), "bad event", ()))
        self.assertEqual(parts(fate(text, strict.with_flags(0, finish=False))), ("breaks", (), "bad finish", ()))

    def test_over_calls_in_a_loop(self):
        # One letter per round of p; the contract bears three of them.
        states = [([1], 0, [0, 0], True, True), ([2], 0, [0, 0], True, True), ([3], 0, [0, 0], True, True),
                  ([None], 0, [0, 0], True, True)]
        text = (
            "letters 1 answers 2 global g 2 proc main() while g == 0 do call p() end end "
            "proc p() call q() end proc q() read g end"
        )
        self.assertEqual(parts(fate(text, Contract(1, 2, states))), ("breaks", (0,) * 4, "bad event", ()))

    def test_a_call_that_a_shorter_stream_reaches_elsewhere(self):
        # The call of p that comes first ends wrongly only for a longer stream than the other one.
        text = (
            "letters 2 answers 2 global g 3 proc main() local x 3 read x g = 0 call p() "
            "if x == 1 then if g == 1 then write 0 end else if x == 0 then if g == 0 then write 0 end end end end "
            "proc p() local y 3 read y if y == 0 then g = 1 else read y if y == 1 then g = 0 else g = 2 end end end"
        )
        self.assertEqual(fate(text, NO_ZERO_2).stream, (1, 0))

    def test_a_quiet_ring_behind_letters(self):
        text = (
            "letters 2 answers 2 global g 3 proc main() read g if g == 1 then read g if g == 0 then call p() end end end "
            "proc p() skip call p() end"
        )
        self.assertEqual(
            parts(fate(text, open_contract(2, 2, silence=False))), ("breaks", (1, 0), "bad silence", ())
        )

    def test_silence_alone(self):
        text = "letters 1 answers 2 global g 2 proc main() while g == 0 do read g end while 1 do skip end end"
        self.assertEqual(
            parts(fate(text, open_contract(1, 2, silence=False, finish=False))), ("breaks", (), "bad silence", ())
        )
        # Before the end of the stream each round reads.
        text = "letters 1 answers 2 global g 2 proc main() while g == 0 do read g end end"
        self.assertEqual(parts(fate(text, open_contract(1, 2, silence=False))), KEPT)

    def test_200_and_201_letters(self):
        head = "letters 1 answers 2 global g 2 proc main() " + "call p() " * 5
        rest = "write g end proc p() " + "call q() " * 5 + "end proc q() " + "read g " * 8 + "end"
        found = fate(head + rest, NO_ZERO)
        self.assertEqual(parts(found), ("breaks", (0,) * 200, "bad event", ()))
        with self.assertRaises(TooLong) as caught:
            fate(head + "read g " + rest, NO_ZERO)
        self.assertEqual(caught.exception.what, "stream")
        # The one that is longer does not count where there is another one.
        found = fate(head + "if g then while 1 do end end read g " + rest, NO_ZERO.with_flags(0, silence=False))
        self.assertEqual(parts(found), ("breaks", (), "bad silence", ()))

    def test_200_letters_beside_201(self):
        # If the last letter is 0, one more is read; each of the words of both lengths breaks.
        text = (
            "letters 2 answers 2 global g 3 proc main() " + "call p() " * 5
            + "if g == 0 then read g end if g < 2 then write 0 end end "
            + "proc p() " + "call q() " * 5 + "end proc q() " + "read g " * 8 + "end"
        )
        self.assertEqual(fate(text, NO_ZERO_2).stream, (0,) * 199 + (1,))

    def test_the_shortest_way_through_a_call(self):
        # The call of p ends in the same way behind one letter and behind two.
        text = (
            "letters 2 answers 2 global h 2 proc main() local x 3 call p() read x read x read x call p() "
            "if h == 0 then write 0 end end "
            "proc p() local y 3 read y if y == 1 then read y end if y == 2 then h = 1 end end"
        )
        self.assertEqual(fate(text, NO_ZERO_2).stream, (0,) * 5)

    def test_the_shortest_way_to_a_quiet_ring(self):
        text = (
            "letters 2 answers 2 global h 2 proc main() local x 3 read x if x == 0 then read x if x < 2 then "
            "x = 1 end end if x == 1 then while 1 do end end end"
        )
        self.assertEqual(
            parts(fate(text, open_contract(2, 2, silence=False))), ("breaks", (1,), "bad silence", ())
        )

    def test_the_shortest_way_to_a_quiet_ring_in_different_calls(self):
        text = (
            "letters 2 answers 2 proc main() local x 3 read x if x < 2 then call p(x) end end "
            "proc p(a 2) a = 0 while 1 do end end"
        )
        self.assertEqual(
            parts(fate(text, open_contract(2, 2, silence=False))), ("breaks", (0,), "bad silence", ())
        )

    def test_a_letter_with_a_bad_event_counts(self):
        head = "letters 1 answers 2 global g 2 proc main() " + "call p() " * 4 + "write 1 "
        rest = "end proc p() " + "call q() " * 5 + "end proc q() " + "read g " * 10 + "end"
        contract = Contract(1, 2, [([0], 0, [1, 1], True, True), ([None], 1, [1, 1], True, True)])
        found = fate(head + rest, contract)
        self.assertEqual(parts(found), KEPT)
        with self.assertRaises(TooLong):
            fate(head + "read g " + rest, contract)
        shorter = head.replace("call p() write", "call q() write")
        self.assertEqual(fate(shorter + "read g " + rest, contract).stream, (0,) * 161)

    def test_very_many_letters(self):
        # Twice as many letters at each depth, far more than any stream that is told.
        text = "letters 1 answers 2 global g 2 proc main() call p(0, 0) write g end " \
            "proc p(a 4, b 4) if a < 3 then call p(a + 1, b) call p(a + 1, b) else " \
            "if b < 3 then call p(0, b + 1) call p(0, b + 1) else read g end end end"
        with self.assertRaises(TooLong) as caught:
            fate(text, NO_ZERO)
        self.assertEqual(caught.exception.what, "stream")
        self.assertEqual(parts(fate(text.replace("write g", "write 1"), NO_ZERO)), KEPT)

    def test_reads_in_deep_calls_still_keep(self):
        text = "letters 1 answers 2 global g 2 proc main() call p() write 1 end " \
            "proc p() read g if g == 0 then call p() call p() end end"
        found = fate(text, NO_ZERO)
        self.assertEqual(parts(found), KEPT)
        self.assertEqual(parts(fate(text.replace("write 1", "write 0"), NO_ZERO)), ("breaks", (), "bad event", ()))


class RunBoundTest(unittest.TestCase):
    TEXT = (
        "letters 1 answers 2 proc main() " + "call b() " * 9 + "{} write 0 end proc b() " + "call c() " * 7
        + "end proc c() " + "call d() " * 11 + "end proc d() " + "skip " * 5 + "end"
    )

    def test_5000_and_5001_steps(self):
        text = self.TEXT.format("skip " * 4)
        self.assertEqual(run(parse_program(text), NO_ZERO, ()).steps, 5000)
        self.assertEqual(parts(fate(text, NO_ZERO)), ("breaks", (), "bad event", ()))
        text = self.TEXT.format("skip " * 5)
        self.assertEqual(run(parse_program(text), NO_ZERO, (), steps=5001).steps, 5001)
        with self.assertRaises(TooLong) as caught:
            fate(text, NO_ZERO)
        self.assertEqual(caught.exception.what, "run")

    def test_a_long_run_that_does_not_break(self):
        text = self.TEXT.format("skip " * 5)
        self.assertEqual(parts(fate(text)), KEPT)
        self.assertEqual(parts(fate(text, NO_ZERO, Change([0], [(0, (), 1)]))), KEPT)
        self.assertEqual(parts(fate(text, NO_ZERO, Change([0]))), ("asks", None, None, ((0, ()),)))

    def test_stream_comes_before_run(self):
        # The stream has 693 letters, and the run on it makes more than 5000 steps.
        text = (
            "letters 1 answers 2 global g 2 proc main() " + "call b() " * 9 + "write g end proc b() "
            + "call c() " * 7 + "end proc c() " + "call d() " * 11 + "end proc d() read g " + "skip " * 5 + "end"
        )
        with self.assertRaises(TooLong) as caught:
            fate(text, NO_ZERO)
        self.assertEqual(caught.exception.what, "stream")


class DeepCallsTest(unittest.TestCase):
    def test_calls_without_a_bound(self):
        # Each letter is one call deeper, and each return writes.
        text = (
            "letters 2 answers 2 proc main() call p() end "
            "proc p() local x 3 read x if x == 0 then call p() write 1 else if x == 1 then write {} end end end"
        )
        self.assertEqual(parts(fate(text.format(1), NO_ZERO_2)), KEPT)
        self.assertEqual(parts(fate(text.format(0), NO_ZERO_2)), ("breaks", (1,), "bad event", ()))

    def test_a_fault_that_needs_depth(self):
        # The writes of the returns count up in the contract, which bears two of them.
        states = [([0], 0, [1, 1], True, True), ([0], 0, [2, 2], True, True), ([0], 0, [None] * 2, True, True)]
        text = (
            "letters 1 answers 2 proc main() call p() end "
            "proc p() local x 2 read x if x == 0 then call p() write 1 end end"
        )
        self.assertEqual(
            parts(fate(text, Contract(1, 2, states))), ("breaks", (0, 0, 0), "bad event", ())
        )

    def test_calls_that_grow_quietly_for_ever(self):
        text = "letters 1 answers 2 proc main() call p(0) end proc p(a 4) call p(a + 1) end"
        self.assertEqual(parts(fate(text)), KEPT)
        self.assertEqual(
            parts(fate(text, open_contract(silence=False))), ("breaks", (), "bad silence", ())
        )

    def test_calls_that_grow_and_write(self):
        text = "letters 1 answers 2 proc main() call p(0) end proc p(a 4) write 1 call p(a + 1) end"
        self.assertEqual(parts(fate(text, open_contract(silence=False, finish=False))), KEPT)


class RefusalTest(unittest.TestCase):
    # See point 35: 24 points of main and its end, 8 sights of the globals and 4 of x, 5 states; and 15 points of p.
    HEAVY = (
        "letters 1 answers 2 global f 2 global g 2 global h 2 proc main() local x 4 " + "skip " * 23
        + "call p() {} end proc p() local y 2 " + "read y " * 13 + "{} end"
    )

    def test_weight_of_200000_and_beyond(self):
        contract = Contract(1, 2, [open_state()] * 5)
        program = parse_program(self.HEAVY.format("", "read y"))
        self.assertEqual(weight(program, contract), 200000)
        self.assertEqual(parts(decide(program, contract)), KEPT)
        self.assertTrue(holds(program, contract, None, decide(program, contract).paper))
        for text in (self.HEAVY.format("skip", "read y"), self.HEAVY.format("", "read y skip")):
            heavier = parse_program(text)
            for change in (None, Change([])):
                with self.assertRaises(TooLarge) as caught:
                    decide(heavier, contract, change)
                self.assertEqual(caught.exception.what, "weight")
            with self.assertRaises(TooLarge) as caught:
                holds(heavier, contract, None, [])
            self.assertEqual(caught.exception.what, "weight")
            self.assertEqual(run(heavier, contract, [0]).verdict, "finished")

    def test_mismatch(self):
        for letters, answers in ((1, 2), (3, 2), (2, 3)):
            with self.assertRaises(Mismatch):
                decide(sample_program(), open_contract(letters, answers))

    def test_changes_that_do_not_fit(self):
        for change in (Change([2]), Change([0], [(0, (3,), 0)]), Change([0], [(0, (0,), 3)]), Draft([3]),
                       Draft([1], [(1, 3)])):
            with self.assertRaises(InvalidChange):
                decide(sample_program(), sample_contract(), change)

    def test_order(self):
        heavy = parse_program(self.HEAVY.format("skip", "read y"))
        contract = Contract(1, 2, [open_state()] * 5)
        with self.assertRaises(Mismatch):
            decide(heavy, open_contract(2, 2), Change([99]))
        with self.assertRaises(InvalidChange):
            decide(heavy, contract, Change([99]))
        long = self.HEAVY.format("skip", "read y").replace("call p()", "call p() write 0")
        with self.assertRaises(TooLarge):
            decide(parse_program(long), Contract(1, 2, [NO_ZERO.states[0]] * 5))


class KindsTest(unittest.TestCase):
    def test_attributes_of_each_fate(self):
        for change in (None, Change([0, 1]), Draft([0, 1], [(0, 3), (1, 1)]),
                       Change([1], [(1, [0], 1), (1, [1], 1), (1, [2], 1)])):
            found = decide(sample_program(), sample_contract(), change)
            for value in (found.word, found.stream, found.verdict, found.asked, found.paper, found.uses):
                self.assertTrue(has_only_tuples(value), value)
            self.assertEqual(found.paper == (), found.word != "keeps")
            self.assertEqual(found.stream is None, found.word != "breaks")

    def test_equal_arguments_give_equal_results(self):
        for change in (None, Change([0, 1], [(0, (0,), 0)])):
            one = decide(sample_program(), sample_contract(), change)
            other = decide(sample_program(), sample_contract(), change)
            self.assertEqual(vars(one), vars(other))


PROGRAMS = (
    "letters 2 answers 2 proc main() local x 3 read x x = 0 write 0 end",
    "letters 2 answers 2 global g 3 proc main() while g < 2 do read g write g end write 1 end",
    "letters 1 answers 2 global g 2 global h 2 proc main() while 1 do read g h = h + g + 1 write h end end",
    "letters 2 answers 2 global g 3 proc main() read g call p(g) write g end "
    "proc p(a 2) if a then read g call p(g) else write a end end",
    "letters 2 answers 2 global g 3 proc main() call p() call p() end "
    "proc p() read g if g == 1 then while g do skip end end if g == 0 then call p() write 0 end end",
    "letters 1 answers 2 global g 2 proc main() call p(1) call q() write g end "
    "proc p(a 3) if a < 2 then call p(a + 1) else read g end end proc q() read g if g == 0 then call p(0) end end",
)

RULES = (
    "letters L answers 2 state finish silent over to 0 READS write 0 to 0 write 1 to 0",
    "letters L answers 2 state finish over to 1 READS write 0 to 0 write 1 to 1 state finish write 1 to 0 READS over to 1",
    "letters L answers 2 state finish silent over to 1 READS write 1 to 1 state READS over to 1 write 0 to 0 write 1 to 1",
    "letters L answers 2 state silent over to 1 read 0 to 1 write 0 to 0 write 1 to 2 "
    "state finish write 0 to 0 over to 2 write 1 to 1 READS state finish silent READS write 1 to 0 over to 2",
)


def contract_for(program, text):
    reads = " ".join(f"read {letter} to 0" for letter in range(program.letters))
    return parse_contract(text.replace("L", str(program.letters), 1).replace("READS", reads))


class AllShortStreamsTest(unittest.TestCase):
    """What decide tells against the runs on all short streams."""

    def changes(self, program):
        yield None
        for place, (procedure, role, size, expression) in enumerate(program.places):
            sights = program.sights(procedure)
            yield Change([place])
            yield Change([place], [(place, sight, (index + place) % size) for index, sight in enumerate(sights)])
            yield Change([place], [(place, sight, 0) for sight in sights[1:]])
            yield Draft([place])
            yield Draft([place], [(place, 1)])
            yield Draft([place], [(place, 2)])

    def check(self, program, contract, change, longest):
        found = decide(program, contract, change)
        streams = [
            stream for length in range(longest + 1)
            for stream in itertools.product(range(program.letters), repeat=length)
        ]
        runs = [(stream, run(program, contract, stream, change)) for stream in streams]
        breaking = [(stream, one.verdict) for stream, one in runs if one.breaks]
        asked = {one.asked for stream, one in runs if one.asked}
        if breaking:
            self.assertEqual((found.word, (found.stream, found.verdict)), ("breaks", breaking[0]))
        elif found.word == "breaks":
            self.assertGreater(len(found.stream), longest)
        elif asked:
            self.assertEqual((found.word, found.asked), ("asks", tuple(sorted(asked))))
        else:
            self.assertEqual(found.word, "keeps")
        own = () if change is None else change.field if isinstance(change, Draft) else change.places
        met = {entry for stream, one in runs for entry in one.met if entry[0] not in own}
        self.assertEqual(found.uses[0], tuple(sorted(met)))
        return found.word

    def test_all(self):
        words = []
        for text in PROGRAMS:
            program = parse_program(text)
            for rules in RULES:
                contract = contract_for(program, rules)
                for change in self.changes(program):
                    words.append(self.check(program, contract, change, 5 if program.letters == 1 else 4))
        for word in ("breaks", "asks", "keeps"):
            self.assertGreater(words.count(word), 40, word)


if __name__ == "__main__":
    unittest.main()
