"""Point 20: whether a thing is a paper that holds."""

import copy
import itertools
import random
import unittest

from neithertells.house import SIDES, House
from neithertells.listings import Listing
from neithertells.looker import holds
from neithertells.papers import paper_of
from neithertells.runs import run
from samples import NO_INTEGERS, NO_PROGRAMS, drawn_collector, drawn_machine, drawn_teller, nested_list, nested_tuple
from samples import plain_list, plain_run, program

WORDS = ("member", "missing", "ended", "silent", "listed", "spent")
OTHER = {"left": "right", "right": "left"}
FAR = 10 ** 99


def teller(text, position, side="left"):
    return ("teller", program(text), side, position)


def collector(text, barred, side="left"):
    return ("collector", program(text), side, barred)


# Each case: a paper, the facts for which it holds, and the members of the machine's side and of the other set.
CASES = (
    (("member", 1, []), teller("teller; answer 0", 0), [], [0]),
    (("member", 3, [0, 1]), teller("teller; ask x-1 a; ask x+0 b; answer 0", 1), [0], [1]),
    (("member", 4, [3, 9]), teller("teller; ask x+4 a; ask 3 b; if b == 0; answer 0; end", 5), [2], [7, 5]),
    (("member", 2, [FAR + 15]), teller("teller; ask x+15 a; answer 0", FAR), [FAR, FAR + 15], [FAR]),
    (("member", 10 ** 30 + 1, []), teller("teller; wait 1000000000000000000000000000000; answer 0", 8), [], [8]),
    (("missing", 1, []), teller("teller; answer 1", 0), [0], [1]),
    (("missing", 2, [3]), teller("teller; ask 3 b; answer 1", 0), [], []),
    (("missing", 3, [1]), teller("teller; ask x-1 a; if a == 1; answer 1; end", 2), [1], [1, 3]),
    (("missing", 2, [FAR - 15]), teller("teller; ask x-15 a; answer 1", FAR), [FAR], [FAR - 1, FAR + 1]),
    (("ended", 0, []), teller("teller", 0), [], []),
    (("ended", 1, [0]), teller("teller; ask 0 a", 3), [0], [3]),
    (("ended", 2, [0, 1]), teller("teller; ask 1 a; ask 0 a", 3), [], []),
    (("ended", 6, [4]), teller("teller; ask x+1 a; if a == 0; wait 4; end", 3), [], [5]),
    (("silent", 0, 2, []), teller("teller; while a == 0; end", 0), [], []),
    (("silent", 0, 2, []), teller("teller; while a == 0; end", 0), [], [0]),
    (("silent", 1, 3, [1]), teller("teller; ask x+0 a; while a == 1; end", 1), [1], []),
    (("silent", 2, 12, [0, 1]), teller("teller; ask 1 b; set a 1; while a == 1; wait 7; ask x-6 b; end", 6), [1, 0], [6]),
    (("listed", 1, 0), collector("collector; list 0", []), [0], []),
    (("listed", 1, 1), collector("collector; list 1; list 0", [1]), [1], [1]),
    (("listed", 2, 3), collector("collector; while a == 0; list 3; grow 2; end", []), [3], []),
    (("listed", 2002, 1003), collector("collector; while a == 0; list 3; grow 2; end", [3]), [1003, 4], []),
    (("listed", 2 + 4 * FAR, 3 + 2 * FAR), collector("collector; while a == 0; list 3; grow 2; end", []), [3 + 2 * FAR], []),
    (("spent", []), collector("collector", []), [], []),
    (("spent", []), collector("collector; while a == 0; grow 1; end", [7]), [0, 1], [2]),
    (("spent", [1]), collector("collector; list 1", [1]), [0], [1]),
    (("spent", [0, 1]), collector("collector; list 1; while a == 0; list 0; list 1; end", [0, 1, 2]), [], []),
    (("spent", [3, 7]), collector("collector; list 3; grow 7; list 0; grow 1", [3, 5, 7, FAR]), [4], [3, 7]),
)

NO_PAPERS = (
    *NO_PROGRAMS, *NO_INTEGERS, *WORDS, *[(word,) for word in WORDS], *[[word] for word in WORDS],
    nested_list(20), nested_tuple(20), [[]] * 2000, ((),) * 2000, ("member",) * 2000, ("spent", [0] * 1990),
    ("member", 1, nested_list(18)), ("spent", nested_list(18)), ("listed", nested_list(18), nested_tuple(18)),
    ("member", 1, [nested_list(17)]), ("silent", 0, 2, nested_tuple(18)), (("member", 1, []),), [("member", 1, [])],
    (nested_list(18), 1, []), (nested_tuple(18), 1, []), ("member", [1], []), ("member", (1,), []), "('member', 1, [])",
)


def other_parts(part):
    """Things that are not this part, though some of them look like it."""
    if isinstance(part, list):
        yield from (tuple(part), part + [16], part + [FAR], [0] + part, [-1] + part, part + [None], part + [True], [part])
        yield from (None, "", "[]", 0, True, len(part), (), nested_list(18), nested_tuple(18), str(part), part * 2 + [5])
        if part:
            yield from (part[1:], part[:-1], part + part[-1:], part[:1] + part, [part[0] + 1] + part[1:], part[:-1] + [part[-1] - 1])
            yield from ([str(item) for item in part], [[item] for item in part], [(item,) for item in part], part[0])
            yield from ([bool(item) for item in part], [part[0] == 1] + part[1:], [part[0] != 0] + part[1:])
        if len(part) > 1:
            yield from (part[::-1], part[1:] + part[:1])
    elif isinstance(part, str):
        yield from (word for word in WORDS if word != part)
        yield from ("", part.upper(), part.title(), part + " ", " " + part, part[:-1], [part], (part,), None, True, 0, nested_list(18))
    else:
        yield from (part + 1, part - 1, part + FAR, -part - 1, True, False, None, str(part), [part], (part,), [], nested_list(18))


def other_papers(paper):
    """Things that differ from a paper in one place."""
    for at, part in enumerate(paper):
        for thing in other_parts(part):
            yield paper[:at] + (thing,) + paper[at + 1:]
    for extra in (None, 0, 1, [], (), "", "listed", True, paper[-1], paper):
        yield paper + (extra,)
        yield (extra,) + paper
    yield from (paper[:-1], paper[1:], paper[:1], (), list(paper), (paper,), [paper], paper + paper, paper[::-1], str(paper))


class HoldsTest(unittest.TestCase):
    def check(self, expected, paper, facts, members, others):
        """Whether the paper holds, on either side; nothing that is passed is changed."""
        for side in SIDES:
            facts = (facts[0], facts[1], side, facts[3])
            left, right = (members, others) if side == "left" else (others, members)
            kept = copy.deepcopy((paper, facts, left, right))
            self.assertIs(holds(paper, facts, left, right), expected, (paper, facts, left, right))
            self.assertEqual((paper, facts, left, right), kept)

    def test_interface(self):
        facts = ("teller", program("teller; ask 3 b; answer 1"), "left", 0)
        self.assertIs(holds(("missing", 2, [3]), facts, [], []), True)
        self.assertIs(holds(("missing", 2, [3]), facts, [], [0]), False)

    def test_each_paper(self):
        for paper, facts, members, others in CASES:
            self.check(True, paper, facts, members, others)
        self.assertEqual({paper[0] for paper, facts, members, others in CASES}, set(WORDS))

    def test_one_part_otherwise(self):
        for paper, facts, members, others in CASES:
            for thing in other_papers(paper):
                self.check(False, thing, facts, members, others)

    def test_things_that_are_no_papers(self):
        for paper, facts, members, others in CASES:
            for thing in NO_PAPERS:
                self.check(False, thing, facts, members, others)

    def test_returned_objects_are_no_papers(self):
        for thing in (House(), Listing(program("collector")), run(program("teller"), 0, [])):
            for paper, facts, members, others in CASES:
                for wrong in (thing, (thing,), (thing, *paper[1:]), (*paper[:-1], thing)):
                    self.assertIs(holds(wrong, facts, members, others), False)

    def test_no_paper_where_a_teller_is_right(self):
        """It is not None either that holds."""
        right = (
            (teller("teller; ask 3 a; answer 0", 5), [], []),
            (teller("teller; ask 3 a; answer 1", 5), [], [5]),
        )
        for facts, members, others in right:
            for thing in (None, *[(word, 2, [3]) for word in WORDS], ("silent", 0, 2, [3]), ("spent", [])):
                self.check(False, thing, facts, members, others)

    def test_papers_of_other_machines(self):
        """For a teller only its own paper holds; for a collector none of a teller."""
        for (one, facts, members, others), (paper, *rest) in itertools.product(CASES, CASES):
            if facts[0] == "teller":
                self.check(paper == one, paper, facts, members, others)
            elif paper[0] not in ("listed", "spent"):
                self.check(False, paper, facts, members, others)

    def test_papers_of_the_other_kind(self):
        for paper, (kind, code, side, last), members, others in CASES:
            for text, barred in (("collector", []), ("collector; list 0; list 1; list 3", [0, 1, 3])):
                if kind == "teller":
                    self.check(False, paper, collector(text, barred), members, others)
            for text in ("teller", "teller; answer 0", "teller; answer 1", "teller; while a == 0; end"):
                if kind == "collector":
                    self.check(False, paper, teller(text, 3), members, others)

    def test_by_name(self):
        for paper, facts, members, others in CASES:
            self.assertIs(holds(paper=paper, facts=facts, left=members, right=others), True)
            self.assertIs(holds(right=others, left=members, facts=facts, paper=paper), True)
            self.assertIs(holds(paper, facts, right=others, left=members), True)


class MembersTest(unittest.TestCase):
    def test_any_order_twice_and_below_0(self):
        source = random.Random(20)
        for paper, facts, members, others in CASES:
            for _ in range(5):
                lists = []
                for row in (members, others):
                    row = row + row + [-1, -2, -FAR, -1]
                    source.shuffle(row)
                    lists.append(row)
                kept = copy.deepcopy(lists)
                self.assertIs(holds(paper, facts, *lists), True, (paper, facts, lists))
                self.assertEqual(lists, kept)

    def test_very_many_members(self):
        many = list(range(2001, 4001))
        for paper, facts, members, others in CASES:
            self.assertIs(holds(paper, facts, members + many[len(members):], others + many[len(others):]), True)
            wrong = (*paper[:1], paper[1] + 1 if isinstance(paper[1], int) else [FAR], *paper[2:])
            self.assertIs(holds(wrong, facts, members + many[len(members):], others + many[len(others):]), False)

    def test_the_position(self):
        member, missing = teller("teller; ask 3 a; answer 0", 5), teller("teller; ask 3 a; answer 1", 5)
        ended, silent = teller("teller; ask 3 a", 5), teller("teller; ask 3 a; while a == a; end", 5)
        for side in SIDES:
            for left, right in itertools.product(([], [5], [4, 6], [6, 5, 4]), repeat=2):
                has = 5 in (right if side == "left" else left)
                for paper, facts, expected in (
                    (("member", 2, [3]), member, has),
                    (("missing", 2, [3]), missing, not has),
                    (("ended", 2 - 1, [3]), ended, True),
                    (("silent", 1, 3, [3]), silent, True),
                ):
                    facts = (*facts[:2], side, 5)
                    self.assertIs(holds(paper, facts, left, right), expected, (paper, facts, left, right))

    def test_asked_positions(self):
        """The run is that on its side: what it asks about matters there, and nowhere else."""
        asks = "teller; ask x+1 a; if a == 1; wait 3; end; ask x+2 b; answer 0"
        for left, right in itertools.product(([], [6], [7], [6, 7], [5, 8]), repeat=2):
            for side in SIDES:
                own, other = (left, right) if side == "left" else (right, left)
                for length in (4, 7):
                    expected = length == (7 if 6 in own else 4) and 5 in other
                    paper = ("member", length, [6, 7])
                    self.assertIs(holds(paper, teller(asks, 5, side), left, right), expected)

    def test_another_position(self):
        facts = teller("teller; ask x-2 a; answer 0", 5)
        self.assertIs(holds(("member", 2, [3]), facts, [], [5, 6]), True)
        self.assertIs(holds(("member", 2, [3]), (*facts[:3], 6), [], [5, 6]), False)
        self.assertIs(holds(("member", 2, [4]), (*facts[:3], 6), [], [5, 6]), True)

    def test_listed_integers(self):
        odd = "collector; while a == 0; list 3; grow 2; end"
        for side in SIDES:
            for left, right in itertools.product(([], [3], [5], [5, 3], [4, -3]), repeat=2):
                own = left if side == "left" else right
                facts = collector(odd, [3], side)
                self.assertIs(holds(("listed", 2, 3), facts, left, right), 3 in own)
                self.assertIs(holds(("listed", 6, 5), facts, left, right), 5 in own)
                for step, integer in ((2, 5), (6, 3), (3, 3), (4, 4), (6, 4), (-2, 1), (2, -3), (0, 3), (4, 3)):
                    self.assertIs(holds(("listed", step, integer), facts, left, right), False)

    def test_spent_integers(self):
        for left, right in itertools.product(([], [3], [9]), repeat=2):
            for barred in ([], [3], [9], [3, 9], [2, 3, 4, 9], [3, 9, FAR], [FAR]):
                for text, integers in (("collector; list 9; list 3; list 9", [3, 9]), ("collector; list 9", [9])):
                    for side in SIDES:
                        facts = collector(text, barred, side)
                        expected = set(integers) <= set(barred)
                        self.assertIs(holds(("spent", integers), facts, left, right), expected)
                        self.assertIs(holds(("spent", barred), facts, left, right), expected and barred == integers)

    def test_an_endless_list_is_never_spent(self):
        for text in ("collector; while a == 0; list 3; grow 2; end", "collector; list 1; while a == 0; grow 1; list 0; end"):
            facts = collector(text, list(range(2000)))
            for integers in ([], [3], list(range(2000)), list(range(3, 2000, 2))):
                self.assertIs(holds(("spent", integers), facts, [], []), False)


class ListTest(unittest.TestCase):
    def test_later_tuples(self):
        """A tuple of the list need not be the first one with its integer, nor the first one with a member."""
        again = collector("collector; list 4; while a == 0; list 3; list 4; end", [])
        for step, integer in ((1, 4), (3, 3), (4, 4), (7, 3), (8, 4), (3 + 4 * FAR, 3), (4 + 4 * FAR, 4)):
            self.assertIs(holds(("listed", step, integer), again, [3, 4], []), True)
            self.assertIs(holds(("listed", step, 7 - integer), again, [3, 4], []), False)
            self.assertIs(holds(("listed", step, integer), again, [7 - integer], []), False)
        # The cycle is (2, 0), (3, 2), and each round adds 2.
        twice = collector("collector; while a == 0; list 0; list 2; grow 2; end", [])
        for step, integer in ((2, 0), (3, 2), (7, 2), (8, 4), (12, 4), (13, 6)):
            self.assertIs(holds(("listed", step, integer), twice, [0, 2, 4, 6], []), True)
        for step, integer in ((2, 2), (3, 0), (7, 0), (7, 4), (8, 2), (12, 6)):
            self.assertIs(holds(("listed", step, integer), twice, [0, 2, 4, 6], []), False)

    def test_the_head_is_listed_once(self):
        facts = collector("collector; list 9; wait 2; while a == 0; list 3; wait 1; end", [])
        self.assertIs(holds(("listed", 1, 9), facts, [3, 9], []), True)
        for step in (5, 9, 13):
            self.assertIs(holds(("listed", step, 9), facts, [3, 9], []), False)
            self.assertIs(holds(("listed", step, 3), facts, [3, 9], []), True)
        # One period before the first round, nothing of the cycle is listed.
        self.assertIs(holds(("listed", 1, 3), facts, [3, 9], []), False)

    def test_a_list_that_ends(self):
        facts = collector("collector; list 9; list 3; list 9", [])
        for step, integer in itertools.product(range(-3, 9), (3, 9)):
            self.assertIs(holds(("listed", step, integer), facts, [3, 9], []), (step, integer) in ((1, 9), (2, 3), (3, 9)))

    def test_very_far_rounds(self):
        facts = collector("collector; while a == 0; wait 1000000000000000000000000000000; list 1; grow 15; end", [])
        for times in (0, 1, 10 ** 6, 10 ** 60, FAR // 15):
            step, integer = 2 + 10 ** 30 + times * (10 ** 30 + 4), 1 + 15 * times
            self.assertIs(holds(("listed", step, integer), facts, [integer], []), True)
            for wrong in ((step + 1, integer), (step - 1, integer), (step, integer + 15), (step + 10 ** 30 + 4, integer)):
                self.assertIs(holds(("listed", *wrong), facts, [wrong[1]], []), False)

    def test_drawn_lists(self):
        """Every tuple up to a step, against the list straight from the statements."""
        source = random.Random(11)
        held = 0
        for _ in range(80):
            facts = ("collector", drawn_collector(source), source.choice(SIDES), [])
            rows = plain_list(facts[1], 30)
            members = [integer for integer in range(25) if source.randrange(2)]
            left, right = (members, []) if facts[2] == "left" else ([], members)
            for step, integer in itertools.product(range(31), range(25)):
                expected = (step, integer) in rows and integer in members
                self.assertIs(holds(("listed", step, integer), facts, left, right), expected)
                held += expected
        self.assertGreater(held, 100)


class DrawnTest(unittest.TestCase):
    def test_drawn_tellers(self):
        """Papers of answers and ends, against the run straight from the statements."""
        source = random.Random(10)
        words = set()
        for _ in range(400):
            position = source.randrange(20)
            facts = ("teller", drawn_teller(source), source.choice(SIDES), position)
            sets = {side: [integer for integer in range(30) if source.randrange(2)] for side in SIDES}
            outcome, answer, length, first, second, asked = plain_run(facts[1], position, sets[facts[2]], 5000)
            is_member = position in sets[OTHER[facts[2]]]
            for word, paper_length in itertools.product(("member", "missing", "ended"), (length or 0, 1 + (length or 0))):
                right = {
                    "member": answer == 0 and is_member, "missing": answer == 1 and not is_member, "ended": outcome == "ended",
                }[word]
                expected = right and paper_length == length
                self.assertIs(holds((word, paper_length, asked), facts, sets["left"], sets["right"]), expected)
                if expected:
                    words.add(word)
        self.assertEqual(words, {"member", "missing", "ended"})

    def test_each_paper_of_a_house_at_rest(self):
        source = random.Random(12)
        words = set()
        for _ in range(200):
            house = House()
            for _ in range(source.randrange(1, 8)):
                house.arrive(drawn_machine(source), side=source.choice(SIDES))
                house.advance(source.randrange(4))
            house.settle()
            sets = [house.members(side) for side in SIDES]
            for number in house.numbers():
                paper = paper_of(house, number)
                self.assertIs(holds(paper, house.facts(number), *sets), True)
                words.add(paper[0])
                for thing in list(other_papers(paper))[::7]:
                    self.assertIs(holds(thing, house.facts(number), *sets), False, (thing, house.facts(number), sets))
        self.assertEqual(words, set(WORDS))


if __name__ == "__main__":
    unittest.main()
