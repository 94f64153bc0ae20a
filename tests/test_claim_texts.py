"""Points 74 and 75: the texts of claims."""

import unittest

from allmends.cases import enough
from allmends.changes import Change
from allmends.claims import Claim, claim_holds, claim_text, parse_claim
from allmends.errors import BoundError, InvalidLine
from allmends.notation import parse_program
from tests.random_programs import Maker
from tests.samples import has_only_tuples, large_program, open_contract, sample_contract, sample_program

PARTS = ("enough", "places", "change", "paper", "tree")
GOOD = (
    "enough 0 3\nentry 0 1 0 2\nentry 0 0 1\nentry 3 2\ncall 0 1 0 2 0 0\ncall 1 0 1 0\nending 1 1 0 1 0\nending 0 0 1\n"
    "call 2 3 0 9999 1\n"
)
BAD = "refuted 1 2 30\nask 1 1 2 at 0\nask 2 3 4 at\nbreaks event 1 0\nbreaks finish\nbreaks silence 0\n"


def parts(claim):
    return tuple(getattr(claim, name) for name in PARTS)


class WrittenTest(unittest.TestCase):
    def test_the_example(self):
        self.assertEqual(
            claim_text(enough(sample_program(), sample_contract(), [1])),
            "refuted 1\nask 1 1 2 at 0\nbreaks event 1\nbreaks event 0\n",
        )

    def test_an_enough_answer(self):
        self.assertEqual(
            claim_text(enough(sample_program(), sample_contract(), [1, 0])),
            "enough 0 1\nentry 0 0 0\nentry 0 1 1\nentry 0 0 2\nentry 1 0 0\nentry 1 1 1\ncall 0 0 0 0 0\n",
        )

    def test_each_kind_of_line(self):
        change = Change([0, 3], [(0, (0, 2), 1), (0, (1,), 0), (3, (), 2)])
        paper = (
            ((0, (0, 0), 1, False), (), 2), ((1, (), 0, True), (((1, 0), 1, True, False), ((), 0, False, True)), 0),
            ((2, (1,), 3, False), (), 9999),
        )
        self.assertEqual(claim_text(Claim(True, [3, 0], change, paper, ())), GOOD)
        tree = (
            ("ask", 1, (0,), (1, 2)), ("ask", 2, (), (3, 4)), ("breaks", (1, 0), "bad event"), ("breaks", (), "bad finish"),
            ("breaks", (0,), "bad silence"),
        )
        self.assertEqual(claim_text(Claim(False, [30, 1, 2], None, (), tree)), BAD)

    def test_empty_lists_of_numbers(self):
        self.assertEqual(claim_text(Claim(True, [], Change([]), (), ())), "enough\n")
        self.assertEqual(claim_text(Claim(False, [], None, (), ())), "refuted\n")
        self.assertEqual(claim_text(Claim(True, [5], Change([5], [(5, (), 0)]), (), ())), "enough 5\nentry 5 0\n")
        self.assertEqual(claim_text(Claim(True, [], Change([]), (((0, (), 0, False), (((), 0, True, True),), 0),), ())),
                         "enough\ncall 0 0 0 0\nending 0 1 1\n")
        self.assertEqual(claim_text(Claim(False, [], None, (), (("ask", 1, (), ()), ("breaks", (), "bad event")))),
                         "refuted\nask 1 at\nbreaks event\n")

    def test_parts_that_are_not_written(self):
        change, paper = Change([9], [(9, (1,), 1)]), (((9, (), 9, True), (), 9),)
        self.assertEqual(claim_text(Claim(False, [1], change, paper, (("breaks", (), "bad event"),))),
                         "refuted 1\nbreaks event\n")
        self.assertEqual(claim_text(Claim(True, [1], Change([1]), (), (("keeps", paper), ("ask", 1, (), (2,))))), "enough 1\n")

    def test_rows_are_written_in_their_order(self):
        rows = (((1, (), 0, False), (((1,), 0, False, True), ((0,), 0, False, True)), 0), ((0, (), 0, False), (), 1))
        self.assertEqual(
            claim_text(Claim(True, [], Change([]), rows, ())),
            "enough\ncall 1 0 0 0\nending 0 0 1 1\nending 0 0 1 0\ncall 0 0 0 1\n",
        )


class ParsedTest(unittest.TestCase):
    def test_each_kind_of_line(self):
        claim = parse_claim(GOOD)
        self.assertIsInstance(claim, Claim)
        self.assertEqual(parts(claim), (
            True, (0, 3), Change([0, 3], [(0, (0, 2), 1), (0, (1,), 0), (3, (), 2)]), (
                ((0, (0, 0), 1, False), (), 2),
                ((1, (), 0, True), (((1, 0), 1, True, False), ((), 0, False, True)), 0),
                ((2, (1,), 3, False), (), 9999),
            ), (),
        ))
        claim = parse_claim(BAD)
        self.assertEqual(parts(claim), (
            False, (1, 2, 30), None, (), (
                ("ask", 1, (0,), (1, 2)), ("ask", 2, (), (3, 4)), ("breaks", (1, 0), "bad event"),
                ("breaks", (), "bad finish"), ("breaks", (0,), "bad silence"),
            ),
        ))

    def test_there_and_back(self):
        for text in (
            GOOD, BAD, "enough\n", "refuted\n", "enough 5\nentry 5 0\n", "enough\ncall 0 0 0 0\nending 0 1 1\n",
            "refuted\nask 1 at\nbreaks event\n", "enough 9999\n", "refuted 0\nask 0 at 0 0 0\n", "enough 0 10 9999\n",
            "enough 1\nentry 1 0 0\nentry 1 0 0 0\nentry 1 0 1\nentry 1 9999 2\n", "refuted\nask 0 1 at\nask 0 2 at 5\n",
            "enough\ncall 0 0 0 0\ncall 0 0 0 0\nending 0 0 0\nending 0 0 0\n",
        ):
            claim = parse_claim(text)
            self.assertEqual(claim_text(claim), text)
            self.assertEqual(parts(parse_claim(claim_text(claim))), parts(claim))

    def test_truth_values(self):
        claim = parse_claim("enough\ncall 0 0 1 1 1\nending 0 0 1 1\nending 1 1 0 1\n")
        (opening, endings, rank), = claim.paper
        self.assertIs(opening[3], True)
        self.assertEqual((rank, type(rank)), (1, int))
        self.assertIs(endings[0][2], False)
        self.assertIs(endings[0][3], True)
        self.assertIs(endings[1][2], True)
        self.assertIs(endings[1][3], False)
        self.assertEqual([type(value) for value in opening[1] + endings[0][0]], [int, int])
        self.assertIs(claim.enough, True)
        self.assertIs(parse_claim("refuted\n").enough, False)

    def test_kinds_of_values(self):
        for text in (GOOD, BAD):
            claim = parse_claim(text)
            for value in (claim.places, claim.paper, claim.tree):
                self.assertTrue(has_only_tuples(value))

    def test_answers_of_many_programs(self):
        kinds = set()
        for seed in range(120):
            maker = Maker(seed)
            program = maker.program()
            contract, places = maker.contract(program), maker.places(program, 0.3)
            try:
                answer = enough(program, contract, places, limit=30)
            except BoundError:
                continue
            claim = parse_claim(claim_text(answer))
            self.assertEqual(parts(claim), parts(answer))
            self.assertIs(claim_holds(program, contract, claim), True)
            kinds.update(line.split(" ")[0] for line in claim_text(answer).split("\n"))
            kinds.update(line for line in claim_text(answer).split("\n") if line.startswith("breaks"))
        for word in ("enough", "refuted", "entry", "call", "ending", "ask", "breaks", "breaks event", "breaks finish",
                     "breaks silence"):
            self.assertIn(word, kinds)

    def test_a_large_program(self):
        program = large_program()
        strict = open_contract(silence=False).with_row(0, ("write", 0), None)
        for places in ([10, 14, 31], [10, 31], [27, 35]):
            answer = enough(program, strict, places)
            claim = parse_claim(claim_text(answer))
            self.assertEqual(parts(claim), parts(answer))
            self.assertIs(claim_holds(program, strict, claim), True)

    def test_claims_that_show_nothing_are_parsed_too(self):
        program = parse_program("letters 1 answers 2 proc main() write 0 end")
        for text in ("enough 99\ncall 99 99 1 99 99\nending 99 0 0 99\n", "refuted 99\nask 99 99 at 99\nbreaks finish 99\n"):
            self.assertIs(claim_holds(program, open_contract(), parse_claim(text)), False)


class WrongLineTest(unittest.TestCase):
    def refused(self, text, number):
        with self.assertRaises(InvalidLine) as caught:
            parse_claim(text)
        self.assertEqual(caught.exception.number, number, text)

    def test_the_empty_text_and_empty_lines(self):
        self.refused("", 0)
        self.refused("\n", 0)
        self.refused("\nenough\n", 0)
        self.refused("enough\n\n", 1)
        self.refused("enough 1\n\nentry 1 0\n", 1)
        self.refused("refuted\n \n", 1)

    def test_a_text_that_does_not_end_with_a_newline(self):
        self.refused("enough", 0)
        self.refused("enough 1\nentry 1 0", 1)
        self.refused("refuted 1\nbreaks event\nbreaks event", 2)
        self.refused("refuted 1\nbreaks event\n ", 2)
        self.refused("refuted 1\nbreaks wrong\nbreaks event", 1)

    def test_unknown_words(self):
        for word in ("", "Enough", "ENOUGH", "enough,", "enough\t1", "enoughs", "mend", "1", "keeps", "at", "entry:", "none"):
            self.refused(f"{word}\n", 0)
            self.refused(f"enough 1\n{word} 1 0\n", 1)
            self.refused(f"refuted 1\n{word} event\n", 1)
        for kind in ("Event", "bad", "bad event", "1", "", "events", "none", "at", "over"):
            self.refused(f"refuted 1\nbreaks {kind}\n", 1)
        self.refused("refuted 1\nbreaks\n", 1)

    def test_numbers(self):
        for number in ("00", "01", "007", "10000", "99999", "123456", "-1", "+1", "1.0", "0x1", "a", "1a", "\t1", "1\t",
                       "event", "true", "None"):
            for text in ("enough {}\n", "refuted {}\n"):
                self.refused(text.format(number), 0)
            for line in ("entry {} 0 0", "entry 1 {}", "entry 1 0 {}", "entry 1 0 0 {}", "call {} 0 0 0", "call 0 {} 0 0",
                         "call 0 0 {} 0", "call 0 0 0 {}", "call 0 0 0 0 {}"):
                self.refused("enough 1\n" + line.format(number) + "\n", 1)
            for line in ("ending {} 0 0", "ending 0 {} 0", "ending 0 0 {}", "ending 0 0 0 {}"):
                self.refused("enough 1\ncall 0 0 0 0\n" + line.format(number) + "\n", 2)
            for line in ("ask {} 1 at 0", "ask 1 {} at 0", "ask 1 1 {} at", "ask 1 at {}", "ask 1 1 at 0 {}",
                         "breaks event {}", "breaks finish 0 {}"):
                self.refused("refuted 1\n" + line.format(number) + "\n", 1)

    def test_truth_values(self):
        for number in ("2", "3", "10", "9999", "True", "False", "x"):
            self.refused(f"enough\ncall 0 0 {number} 0\n", 1)
            self.refused(f"enough\ncall 0 0 0 0\nending 0 {number} 0\n", 2)
            self.refused(f"enough\ncall 0 0 0 0\nending 0 0 {number}\n", 2)

    def test_too_few_words(self):
        for line in ("entry", "entry 1", "call", "call 0", "call 0 0", "call 0 0 0"):
            self.refused(f"enough 1\n{line}\n", 1)
        for line in ("ending", "ending 0", "ending 0 0"):
            self.refused(f"enough 1\ncall 0 0 0 0\n{line}\n", 2)
        for line in ("ask", "ask at", "ask at 0", "ask 1", "ask 1 1 2", "ask 1 0", "breaks"):
            self.refused(f"refuted 1\n{line}\n", 1)

    def test_at_twice(self):
        for line in ("ask 1 at at", "ask 1 at 0 at", "ask 1 1 at 0 at 0", "ask at 1 at 0"):
            self.refused(f"refuted 1\n{line}\n", 1)

    def test_spaces(self):
        for line in ("enough  1", " enough 1", "enough 1 ", "enough 1  2", "enough ", " enough", "enough\t1", " "):
            self.refused(f"{line}\n", 0)
        for line in ("entry 1 0 ", " entry 1 0", "entry  1 0", "entry 1  0", "entry 1 0  0", "call 0 0 0 0 ", "call 0 0  0 0"):
            self.refused(f"enough 1\n{line}\n", 1)
        for line in ("ending 0 0 0 ", "ending  0 0 0", " ending 0 0 0", "ending 0 0 0  1"):
            self.refused(f"enough 1\ncall 0 0 0 0\n{line}\n", 2)
        for line in ("ask 1 at ", "ask 1  at", "ask 1 at  0", "ask  1 at 0", " ask 1 at 0", "breaks  event", "breaks event ",
                     "breaks event  0", "breaks event 0 ", " breaks event"):
            self.refused(f"refuted 1\n{line}\n", 1)
        self.refused("enough\r\n", 0)

    def test_the_first_line(self):
        for line in ("entry 1 0", "call 0 0 0 0", "ending 0 0 0", "ask 1 at", "breaks event"):
            self.refused(f"{line}\n", 0)
            self.refused(f"{line}\nenough 1\n", 0)
        for places in ("1 0", "1 1", "0 1 1", "0 2 1", "0 0", "10 9"):
            for word in ("enough", "refuted"):
                self.refused(f"{word} {places}\n", 0)

    def test_no_other_line_is_a_first_line(self):
        for first in ("enough 1", "refuted 1"):
            for second in ("enough 1", "refuted 1", "enough", "refuted"):
                self.refused(f"{first}\n{second}\n", 1)
        self.refused("enough 1\nentry 1 0\nenough 1\n", 2)
        self.refused("refuted 1\nbreaks event\nrefuted\n", 2)

    def test_lines_of_the_other_kind_of_claim(self):
        for line in ("entry 1 0", "call 0 0 0 0", "ending 0 0 0"):
            self.refused(f"refuted 1\n{line}\n", 1)
            self.refused(f"refuted 1\nask 1 1 at\n{line}\n", 2)
        for line in ("ask 1 at", "breaks event"):
            self.refused(f"enough 1\n{line}\n", 1)
            self.refused(f"enough 1\ncall 0 0 0 0\n{line}\n", 2)

    def test_the_order_of_the_lines(self):
        self.refused("enough 1\nending 0 0 0\n", 1)
        self.refused("enough 1\nentry 1 0\nending 0 0 0\n", 2)
        self.refused("enough 1\ncall 0 0 0 0\nentry 1 0\n", 2)
        self.refused("enough 1\nentry 1 0 0\ncall 0 0 0 0\nending 0 0 0\nentry 1 0 1\n", 4)

    def test_entries(self):
        head = "enough 1 3\nentry 1 0 1 1\n"
        # One that does not ascend, one twice (also with another value), and one of another place.
        for line in ("entry 1 0 1 0", "entry 1 0 1", "entry 1 0 0 2", "entry 1 0", "entry 1 0 1 1", "entry 1 1 1 1",
                     "entry 2 0", "entry 0 0 5", "entry 4 0", "entry 99 0"):
            self.refused(f"{head}{line}\n", 2)
        for line in ("entry 1 0 1 2", "entry 1 0 2", "entry 1 0 1 1 0", "entry 3 0", "entry 3 5 0 0 0"):
            self.assertEqual(claim_text(parse_claim(f"{head}{line}\n")), f"{head}{line}\n")
        self.refused("enough\nentry 1 0\n", 1)
        self.refused("enough 1 3\nentry 3 0\nentry 1 0\n", 2)
        # One that stands behind the first entry, but not behind the last one.
        self.refused("enough 1\nentry 1 0 0\nentry 1 0 2\nentry 1 0 1\n", 3)
        self.refused("enough 1 3 5\nentry 1 0\nentry 5 0\nentry 3 0\n", 3)

    def test_the_first_of_two_wrong_lines_counts(self):
        self.refused("enough 1\nentry 2 0\nentry 01 0\n", 1)
        self.refused("enough 1\nentry 01 0\nentry 2 0\n", 1)
        self.refused("enough 1 1\nwrong\n", 0)
        self.refused("enough 1\nentry 1 0 0\nwrong\nwrong", 2)
        self.refused("enough 1\nentry 1 0 1\nentry 1 0 0\nrefuted", 2)
        self.refused("refuted\nbreaks event\nbreaks event  0\nenough\n", 2)
        # What stands behind a fault is not looked at.
        self.refused("refuted 1\nask 1\n" + "breaks event\n" * 50, 1)


if __name__ == "__main__":
    unittest.main()
