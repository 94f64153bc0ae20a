"""Points 64 and 68: who wins free play, and the plan or the spoiling that shows it."""

import unittest

from allmends.bounds import weight
from allmends.cases import enough
from allmends.contracts import Contract
from allmends.errors import BoundError, InvalidPlaces, Mismatch, TooLarge
from allmends.forms import statements_of
from allmends.notation import parse_program
from allmends.plans import plan_holds, spoiling_holds
from allmends.play import free_play
from tests.random_programs import Maker
from tests.samples import (
    calling_pair, free_pair, has_only_tuples, open_contract, open_state, places_with, sample_contract, sample_program,
)

NO_ZERO = open_contract(1, 2).with_row(0, ("write", 0), None)


class Stacks:
    """Free play on whole stacks of calls, written down once more without anything that free play itself uses.

    It ends only for programs whose calls do not lie in each other without end.
    """

    def __init__(self, program, contract, places):
        self.program, self.contract, self.places = program, contract, places

    def mender_wins(self):
        """True if the first moment is among those that the mender can keep from losing."""
        first = (((0, 0, (0,) * len(self.program.sizes(0))),), 0, False)
        moves = {}
        waiting = [first]
        while waiting:
            moment = waiting.pop()
            if moment not in moves:
                moves[moment] = self.choices(moment)
                waiting.extend(one for choice in moves[moment] for one in choice if one is not None)
        lost = {None}
        grows = True
        while grows:
            grows = False
            for moment, choices in moves.items():
                if moment not in lost and all(any(one in lost for one in choice) for choice in choices):
                    lost.add(moment)
                    grows = True
        return first not in lost

    def choices(self, moment):
        """For each choice of the mender the moments that can follow; None is a loss, and no moment the end."""
        stack, state, over = moment
        procedure, point, sight = stack[-1]
        row = self.program.points(procedure)[point]
        if row[0] == "end":
            return [self.ended(stack, state, over)]
        if row[0] == "skip":
            return [[(self.moved(stack, row[1], sight), state, over)]]
        if row[0] == "read":
            return [self.read(stack, row, state, over)]
        if row[0] == "call":
            return [self.called(stack, row, values, state, over) for values in self.values(row[2], sight)]
        place = row[2] if row[0] == "set" else row[1]
        return [[self.valued(stack, row, value, state, over)] for (value,) in self.values((place,), sight)]

    def values(self, places, sight):
        found = [()]
        for place in places:
            free = range(self.program.places[place][2])
            news = free if place in self.places else [self.program.value_at(place, sight)]
            found = [values + (value,) for values in found for value in news]
        return found

    def moved(self, stack, point, sight):
        return stack[:-1] + ((stack[-1][0], point, sight),)

    def ended(self, stack, state, over):
        if len(stack) == 1:
            return [] if self.contract.states[state][3] else [None]
        globals_now = stack[-1][2][:len(self.program.variables)]
        procedure, point, sight = stack[-2]
        follows = self.program.points(procedure)[point][3]
        after = globals_now + sight[len(globals_now):]
        return [(stack[:-2] + ((procedure, follows, after),), state, over)]

    def read(self, stack, row, state, over):
        word, slot, point = row
        sight = stack[-1][2]
        found = []
        for letter in range(self.program.letters + 1):
            is_end = letter == self.program.letters
            if over and not is_end:
                continue
            event = ("over",) if is_end else ("read", letter)
            target = state if over else self.contract.follow(state, event)
            after = sight[:slot] + (letter,) + sight[slot + 1:]
            found.append(None if target is None else (self.moved(stack, point, after), target, over or is_end))
        return found

    def called(self, stack, row, values, state, over):
        sight = stack[-1][2]
        sizes = self.program.sizes(row[1])
        begun = sight[:len(self.program.variables)] + values
        return [(stack + ((row[1], 0, begun + (0,) * (len(sizes) - len(begun))),), state, over)]

    def valued(self, stack, row, value, state, over):
        sight = stack[-1][2]
        if row[0] == "set":
            return (self.moved(stack, row[3], sight[:row[1]] + (value,) + sight[row[1] + 1:]), state, over)
        if row[0] == "test":
            return (self.moved(stack, row[2] if value == 1 else row[3], sight), state, over)
        target = self.contract.follow(state, ("write", value))
        return None if target is None else (self.moved(stack, row[2], sight), target, over)


class PlayCase(unittest.TestCase):
    def play(self, program, contract, places):
        """Whether the places are enough in free play; what shows it must hold, and nothing else."""
        found = free_play(program, contract, places)
        self.assertEqual(found.places, tuple(sorted(places)))
        self.assertIs(found.enough, found.spoiling == ())
        self.assertIs(found.enough, found.plan != ())
        self.assertIs(plan_holds(program, contract, places, found.plan), found.enough)
        self.assertIs(spoiling_holds(program, contract, places, found.spoiling), not found.enough)
        for value in (found.places, found.plan, found.spoiling):
            self.assertTrue(has_only_tuples(value))
        self.assert_ascending(found)
        return found.enough

    def assert_ascending(self, found):
        for opening, allowed, moves in found.plan:
            self.assertEqual(allowed, tuple(sorted(set(allowed))))
            for node, values, outcomes in moves:
                self.assertEqual(outcomes, tuple(sorted(set(outcomes))))
        for opening, forbidden, node, reasons in found.spoiling:
            self.assertEqual(forbidden, tuple(sorted(set(forbidden))))

    def play_text(self, text, places, contract=NO_ZERO):
        return self.play(parse_program(text), contract, places)


class FreePlayTest(PlayCase):
    def test_the_example(self):
        program, contract = sample_program(), sample_contract()
        # By a table the write has one value for both letters; in free play it has what the letter wants.
        self.assertIs(self.play(program, contract, [1]), True)
        self.assertIs(enough(program, contract, [1]).enough, False)
        self.assertIs(self.play(program, contract, [0]), False)

    def test_enough_by_a_table(self):
        self.assertIs(enough(sample_program(), sample_contract(), [0, 1]).enough, True)
        self.assertIs(self.play(sample_program(), sample_contract(), [1, 0]), True)
        self.assertIs(self.play_text("letters 1 answers 2 proc main() write 0 end", [0]), True)

    def test_not_enough(self):
        text = "letters 1 answers 2 global g 2 proc main() read g write g end"
        self.assertIs(self.play_text(text, []), False)
        self.assertIs(self.play_text(text, [0]), True)
        self.assertIs(self.play_text("letters 1 answers 2 proc main() write 1 write 0 write 1 end", [0, 2]), False)

    def test_no_place_at_all(self):
        for none in ([], ()):
            self.assertIs(self.play_text("letters 1 answers 2 proc main() write 0 end", none), False)
            self.assertIs(self.play_text("letters 1 answers 2 proc main() write 1 end", none), True)
            self.assertIs(self.play_text("letters 1 answers 2 proc main() end", none), True)
            self.assertIs(self.play_text("letters 1 answers 2 proc main() end", none, open_contract(finish=False)), False)

    def test_silence_is_not_counted(self):
        strict = open_contract(silence=False, finish=False)
        for text in ("proc main() while 1 do end end", "proc main() call p() end proc p() call p() end"):
            self.assertIs(self.play_text(f"letters 1 answers 2 {text}", [], strict), True)
        # By a table the loop would be silent for ever.
        text = "letters 1 answers 2 proc main() while 0 do end end"
        self.assertIs(self.play_text(text, [], strict), False)
        self.assertIs(self.play_text(text, [0], strict), True)
        self.assertIs(enough(parse_program(text), strict, [0]).enough, False)

    def test_equal_sights_may_get_different_values(self):
        # The write stands in one sight, but the contract wants a 0 and a 1 in turn, and then an end.
        text = "letters 1 answers 2 proc main() while 1 do write 0 end end"
        turns = Contract(1, 2, [
            ([None], None, [1, None], False, False), ([None], None, [None, 2], False, False),
            ([None], None, [None, None], True, False),
        ])
        self.assertIs(self.play_text(text, [1], turns), False)
        self.assertIs(self.play_text(text, [0, 1], turns), True)
        self.assertIs(enough(parse_program(text), turns, [0, 1]).enough, False)

    def test_the_letters_to_come_are_not_known(self):
        # The write comes before the letter that it would have to be.
        text = "letters 2 answers 2 global g 3 proc main() write 0 read g end"
        contract = Contract(2, 2, [
            ([None] * 2, None, [1, 2], False, True), ([3, None], 3, [None] * 2, False, True),
            ([None, 3], 3, [None] * 2, False, True), ([None] * 2, None, [None] * 2, True, True),
        ])
        self.assertIs(self.play_text(text, [0], contract), False)
        behind = text.replace("write 0 read g", "read g write 0")
        turned = Contract(2, 2, [
            ([1, 2], 3, [None] * 2, False, True), ([None] * 2, None, [3, None], False, True),
            ([None] * 2, None, [None, 3], False, True), ([None] * 2, None, [3, 3], True, True),
        ])
        self.assertIs(self.play_text(behind, [0], turned), True)
        self.assertIs(self.play_text(behind, [], turned), False)

    def test_reads_behind_the_end(self):
        text = "letters 1 answers 2 global g 2 proc main() read g read g if g then write 0 else write 1 end end"
        self.assertIs(self.play_text(text, []), False)
        self.assertIs(self.play_text(text, [0]), True)
        self.assertIs(self.play_text(text, [1]), True)
        once = Contract(1, 2, [([0], 1, [None, 0], True, True), ([None], None, [None, 1], True, True)])
        self.assertIs(self.play_text(text, [], once), False)
        self.assertIs(self.play_text(text, [0], once), True)
        self.assertIs(self.play_text(text.replace("write 0", "skip"), [], once), True)

    def test_events_that_the_letters_make(self):
        text = "letters 2 answers 2 global g 3 proc main() while {} do read g end end"
        for event in (("read", 0), ("read", 1), ("over",)):
            strict = open_contract(2, 2).with_row(0, event, None)
            self.assertIs(self.play_text(text.format("g < 2"), [], strict), False)
            self.assertIs(self.play_text(text.format("g < 2"), [0], strict), True)
            self.assertIs(self.play_text(text.format("0"), [], strict), True)


class CallsTest(PlayCase):
    def test_globals_that_a_callee_changes(self):
        text = "letters 1 answers 2 global g 2 proc main() call p(0) write g end proc p(a 2) g = a end"
        self.assertIs(self.play_text(text, []), False)
        for place in range(3):
            self.assertIs(self.play_text(text, [place]), True)
        hidden = "letters 1 answers 2 proc main() local g 2 call p(0) write g end proc p(a 2) local g 2 g = a end"
        self.assertIs(self.play_text(hidden, [0, 2]), False)
        self.assertIs(self.play_text(hidden, [1]), True)

    def test_one_callee_for_several_ends(self):
        # The same call must set the global once so and once so: in free play it may.
        text = (
            "letters 1 answers 2 global g 2 proc main() call p() if g then skip else write 0 end call p() "
            "if g then write 0 end end proc p() g = 0 end"
        )
        places = [parse_program(text).places.index((1, "set", 2, ("number", 0)))]
        self.assertIs(self.play_text(text, places), True)
        self.assertIs(self.play_text(text, []), False)
        # By a table it may, too, if it can tell the calls apart.
        self.assertIs(enough(parse_program(text), NO_ZERO, places).enough, True)
        apart = text.replace("if g then skip", "if g then g = 0")
        self.assertIs(self.play_text(apart, [place + 1 for place in places]), True)
        self.assertIs(enough(parse_program(apart), NO_ZERO, [place + 1 for place in places]).enough, False)

    def test_one_callee_that_is_lost_at_one_call_and_not_at_another(self):
        # Behind the second call every outcome is lost, behind the first one only that of g = 0.
        text = (
            "letters 1 answers 2 global g 2 proc main() if 0 then call p() write g else call p() write 0 end end "
            "proc p() g = 0 end"
        )
        program = parse_program(text)
        self.assertEqual([row[1] for row in program.places], ["test", "write", "write", "set"])
        self.assertIs(self.play(program, NO_ZERO, [0, 3]), True)
        self.assertIs(self.play(program, NO_ZERO, [3]), False)
        self.assertIs(self.play(program, NO_ZERO, [0]), False)
        self.assertIs(self.play(program, NO_ZERO, [0, 1]), True)
        turned = parse_program(text.replace("write g else call p() write 0", "write 0 else call p() write g"))
        self.assertIs(self.play(turned, NO_ZERO, [0, 3]), True)
        self.assertIs(self.play(turned, NO_ZERO, [3]), True)
        self.assertIs(self.play(turned, NO_ZERO, []), False)

    def test_recursion(self):
        text = (
            "letters 1 answers 2 global g 2 proc main() call p() write g end "
            "proc p() read g if g then g = {} else call p() end end"
        )
        # The stream decides how deep the calls lie in each other.
        self.assertIs(self.play_text(text.format(1), []), True)
        self.assertIs(self.play_text(text.format(0), []), False)
        for place in range(3):
            self.assertIs(self.play_text(text.format(0), [place]), True, place)

    def test_recursion_with_work_behind_the_calls(self):
        # Each letter is answered behind the calls, in the order in which they end.
        text = (
            "letters 1 answers 2 proc main() call p() write 0 end proc p() local x 2 read x "
            "if x then skip else call p() write 1 end end"
        )
        program = parse_program(text)
        first = places_with(program, "write")[0]
        self.assertIs(self.play(program, NO_ZERO, []), False)
        self.assertIs(self.play(program, NO_ZERO, [first]), True)
        limited = Contract(1, 2, [
            ([0], 1, [None, None], False, True), ([None], None, [None, 1], True, True),
        ])
        self.assertIs(self.play(program, limited, [first]), True)
        self.assertIs(self.play(program, limited.with_row(1, ("write", 1), 0), [first]), False)

    def test_calls_of_each_other(self):
        text = (
            "letters 1 answers 2 global g 2 proc main() call p(0) end proc p(a 2) if a then write 0 else call q(a) end end "
            "proc q(b 2) read g if g then skip else call p(1) end end"
        )
        program = parse_program(text)
        self.assertIs(self.play(program, NO_ZERO, []), False)
        # What is passed to p first, and what is passed to q, makes no difference.
        for place in range(6):
            self.assertIs(self.play(program, NO_ZERO, [place]), place not in (0, 3), place)

    def test_a_callee_that_never_has_to_end(self):
        text = "letters 1 answers 2 proc main() call p() write 0 end proc p() while 0 do end end"
        self.assertIs(self.play_text(text, []), False)
        self.assertIs(self.play_text(text, [1]), True)
        found = free_play(parse_program(text), NO_ZERO, [1])
        self.assertEqual(sorted(row[:2] for row in found.plan), [((0, (), 0, False), ()), ((1, (), 0, False), ())])

    def test_the_state_and_the_end_of_the_stream_behind_a_call(self):
        text = (
            "letters 1 answers 2 global g 2 proc main() call p() read g write 0 end proc p() read g write 1 end"
        )
        contract = Contract(1, 2, [
            ([1], 2, [None, None], False, True), ([None], 3, [None, 1], False, True),
            ([None], None, [3, 3], False, True), ([None], None, [3, None], True, True),
        ])
        self.assertIs(self.play_text(text, [0, 1], contract), False)
        contract = contract.with_row(1, ("read", 0), 3)
        self.assertIs(self.play_text(text, [0, 1], contract), True)
        self.assertIs(self.play_text(text, [], contract), True)
        self.assertIs(self.play_text(text, [0], contract.with_row(2, ("write", 1), None)), False)


class ManyProgramsTest(PlayCase):
    def made(self, seeds, **more):
        """Triples of a program, a contract and places that are not refused, made from these numbers."""
        for seed in seeds:
            maker = Maker(seed)
            program = maker.program(**more)
            contract, places = maker.contract(program), maker.places(program)
            try:
                free_play(program, contract, [])
            except TooLarge:
                continue
            yield program, contract, places

    def test_against_whole_stacks(self):
        found = []
        for program, contract, places in self.made(range(400), recursive=False, many=6):
            found.append(self.play(program, contract, places))
            self.assertIs(found[-1], Stacks(program, contract, places).mender_wins())
        self.assertGreater(found.count(True), 80)
        self.assertGreater(found.count(False), 80)

    def test_with_recursion_against_tables(self):
        found = set()
        for program, contract, places in self.made(range(1000, 1400)):
            wins = self.play(program, contract, places)
            try:
                found.add((enough(program, contract, places).enough, wins))
            except BoundError:
                continue
        # What is enough by a table is enough in free play.
        self.assertEqual(found, {(True, True), (False, True), (False, False)})

    def test_more_places_are_never_worse(self):
        many = 0
        for program, contract, places in self.made(range(2000, 2100)):
            if self.play(program, contract, places):
                many += 1
                for place in range(len(program.places)):
                    self.assertIs(self.play(program, contract, sorted({*places, place})), True)
        self.assertGreater(many, 20)


# Near the bounds: 60 statements, nested six deep, five procedures with up to 64 sights, a weight below 8000.
LARGE = """
letters 1 answers 2 global g 2
proc main() local x 4 local y 4 local z 2
  read g
  while g do
    x = x + 1 if x == 1 then if y < 3 then if z or g then if g < 2 then y = 1 - (y - (z + (x - g))) end end end end
    call p(x) call q() write g read g
  end
  z = g if z then write 1 else write 0 end call s(y)
  skip skip skip skip skip skip skip skip skip skip skip skip skip skip
end
proc p(a 2) local u 2
  if a then g = u else g = a end u = g if u and not a then g = 1 end read u if u then call r() end write g
end
proc q() read g if g then skip else call p(g) end skip end
proc r() local v 4 v = g v = v + 2 if v < 3 then g = 1 - g end write v < 2 while v do v = v - 1 end call q() end
proc s(b 4) if b == 2 then g = 0 else write b end if b then call s(b - 1) end skip end
"""


class LargeTest(PlayCase):
    def test_a_large_program(self):
        program = parse_program(LARGE)
        contract = NO_ZERO
        found = [pair for procedure in program.procedures for pair in statements_of(procedure[3])]
        self.assertEqual((len(found), max(depth for statement, depth in found)), (60, 6))
        self.assertEqual(max(len(program.sights(number)) for number in range(5)), 64)
        self.assertEqual(weight(program, contract), 7968)
        writes = places_with(program, "write")
        self.assertIs(self.play(program, contract, []), False)
        self.assertIs(self.play(program, contract, writes), True)
        self.assertIs(self.play(program, contract, range(len(program.places))), True)
        words = [self.play(program, contract, writes[:at] + writes[at + 1:]) for at in range(len(writes))]
        self.assertIn(False, words)
        for place in range(len(program.places)):
            self.play(program, contract, [place])

    def test_a_weight_of_exactly_8000(self):
        program, contract = free_pair()
        self.assertEqual(weight(program, contract), 8000)
        self.assertIs(self.play(program, contract, range(49)), True)
        self.assertIs(self.play(program, contract, range(48)), False)
        program, contract = calling_pair()
        self.assertEqual(weight(program, contract), 8000)
        self.assertIs(self.play(program, contract, []), True)
        self.assertIs(self.play(program, contract.with_flags(1, finish=False), []), False)
        self.assertIs(self.play(program, contract.with_row(0, ("write", 1), None), [0]), False)

    def test_24_outcomes(self):
        text = (
            "letters 1 answers 2 global g 4 global h 3 proc main() while 1 do call p() write g == h end end "
            "proc p() read h if h then g = g + 1 else call p() g = g - 1 end end"
        )
        program = parse_program(text)
        contract = open_contract().with_row(0, ("write", 0), None)
        self.assertIs(self.play(program, contract, []), False)
        tests = places_with(program, "test")
        self.assertIs(self.play(program, contract, places_with(program, "set")), True)
        self.assertIs(self.play(program, contract, tests), True)
        self.assertIs(self.play(program, contract, tests[1:]), True)


class RefusalTest(unittest.TestCase):
    def test_refusals_in_order(self):
        text = "letters 1 answers 2 global g 4 global h 4 proc main() write 0 end proc p() " + "skip " * 10 + "end"
        program = parse_program(text)
        with self.assertRaises(Mismatch):
            free_play(program, open_contract(2, 2), [9, 9])
        for places, place in (([0, 0], 0), ([9, 9], 9), ([-1], -1), ([0, 1], 1)):
            with self.assertRaises(InvalidPlaces) as caught:
                free_play(program, open_contract(), places)
            self.assertEqual(caught.exception.place, place)
        for found, what in ((text, "weight"), (text.replace("skip ", ""), "outcomes")):
            with self.assertRaises(TooLarge) as caught:
                free_play(parse_program(found), open_contract(), [0])
            self.assertEqual(caught.exception.what, what)
        self.assertTrue(free_play(parse_program(text.replace("skip ", "").replace("h 4", "h 3")), NO_ZERO, [0]).enough)

    def test_a_weight_beyond_8000(self):
        for program, contract in (free_pair(50), calling_pair(30)):
            with self.assertRaises(TooLarge) as caught:
                free_play(program, contract, [])
            self.assertEqual(caught.exception.what, "weight")

    def test_one_procedure_beyond_24_outcomes(self):
        program = parse_program("letters 1 answers 2 global f 4 global g 4 global h 4 proc main() write f end")
        self.assertTrue(free_play(program, Contract(1, 2, [open_state()] * 8), []).enough)

    def test_places_are_copied(self):
        places = [1]
        found = free_play(sample_program(), sample_contract(), places)
        places.append(0)
        self.assertEqual(found.places, (1,))
        again = free_play(sample_program(), sample_contract(), (1,))
        self.assertEqual(vars(found), vars(again))


if __name__ == "__main__":
    unittest.main()
