import random
import unittest
from unittest.mock import ANY

from neithertells.assembly import assemble
from neithertells.errors import BadProgram, BadSteps, TooMany
from neithertells.listings import Listing
from neithertells.notation import read
from samples import NO_INTEGERS, NO_PROGRAMS, nested_list, nested_tuple, program, random_body, random_programs

FAR = 10 ** 30
# Lists 3, 5, 7 .. at the steps 2, 6, 10 ..
ODD = program("collector; while a == 0; list 3; grow 2; end")
# Lists 0, 5, 3, 8, 6, 11 ..
PAIRS = program("collector; while a == 0; list 0; list 5; grow 3; end")
# Lists 4 and 9 before the cycle, and then 9, 9, 10, 10 ..
LATE = program("collector; list 4; grow 9; list 0; while a == a; list 0; list b; grow 1; end")
# Lists 7 and 2 again and again.
SAME = program("collector; list 9; while a == 0; list 7; wait 3; list 2; end")
FINITE = program("collector; list 3; grow 5; list 3; wait 9; list 3; list 0")


def parts(listing):
    """All attributes of a listing."""
    return (listing.head, listing.cycle, listing.period, listing.shift)


def plain_rows(collector, most):
    """The first tuples of the list, not more than so many, in at most 20,000 instructions; straight from these."""
    code = assemble(collector)
    at, taken, n = 0, 0, 0
    held = {"a": 0, "b": 0}
    rows = []
    for _ in range(20000):
        if at >= len(code) or len(rows) == most:
            break
        word, *rest = code[at]
        taken += rest[0] if word == "wait" else 1
        at += 1
        if word == "test":
            variable, sign, term = rest[0]
            other = held.get(term, term)
            true = {"==": held[variable] == other, "!=": held[variable] != other, "<": held[variable] < other}[sign]
            at = at if true else rest[1]
        elif word == "jump":
            at = rest[0]
        elif word == "set":
            held[rest[0]] = rest[1]
        elif word == "add":
            held[rest[0]] = (held[rest[0]] + held.get(rest[1], rest[1])) % 16
        elif word == "grow":
            n += held.get(rest[0], rest[0])
        elif word == "list":
            rows.append((taken, n + held.get(rest[0], rest[0])))
    return rows


class ExampleTest(unittest.TestCase):
    def test_interface(self):
        listing = Listing(read("collector\nwhile a == 0\nlist 3\ngrow 2\nend"))
        self.assertEqual(
            [listing.head, listing.cycle, listing.period, listing.shift, listing.is_endless()],
            [[], [(2, 3)], 4, 2, True],
        )
        self.assertEqual(listing.until(10), [(2, 3), (6, 5), (10, 7)])
        self.assertEqual([listing.first_outside([5, 3]), listing.first_inside([1003])], [(10, 7), (2002, 1003)])

    def test_by_name(self):
        listing = Listing(program=ODD)
        self.assertEqual(listing, Listing(ODD))
        self.assertEqual(listing.until(age=5), [(2, 3)])
        self.assertEqual(listing.first_outside(barred=[3]), (6, 5))
        self.assertEqual(listing.first_inside(members=[5]), (6, 5))


class PartsTest(unittest.TestCase):
    def check(self, text, head, cycle, period, shift):
        listing = Listing(program("collector; " + text) if text else ("collector", ()))
        self.assertIs(type(listing.head), list)
        self.assertIs(type(listing.cycle), list)
        self.assertEqual(parts(listing), (head, cycle, period, shift))
        self.assertIs(listing.is_endless(), cycle != [] and shift > 0)

    def test_lists_that_end(self):
        self.check("", [], [], 0, 0)
        self.check("grow 7", [], [], 0, 0)
        self.check("list 3; list 3; grow 4; wait 5; list 1", [(1, 3), (2, 3), (9, 5)], [], 0, 0)
        self.check("set a 6; list a; grow a; list a; grow 15; list 0", [(2, 6), (4, 12), (6, 21)], [], 0, 0)
        self.check("while a < 3; list a; add a 1; end", [(2, 0), (6, 1), (10, 2)], [], 0, 0)

    def test_lists_that_repeat_without_growth(self):
        self.check("while a == 0; list 7; end", [], [(2, 7)], 3, 0)
        self.check("list 9; while a == 0; list 7; wait 3; list 2; end", [(1, 9)], [(3, 7), (7, 2)], 7, 0)
        self.check("grow 4; while a == a; list a; add a 8; end", [], [(3, 4), (7, 12)], 8, 0)

    def test_lists_that_grow_but_list_nothing(self):
        self.check("while a == 0; grow 3; end", [], [], 3, 3)
        self.check("list 5; while a == 0; grow 3; wait 4; end", [(1, 5)], [], 7, 3)
        self.check("while a == 0; wait 4; end", [], [], 6, 0)

    def test_endless_lists(self):
        self.check("while a == 0; list 3; grow 2; end", [], [(2, 3)], 4, 2)
        self.check("while a == 0; grow 2; list 3; end", [], [(3, 5)], 4, 2)
        self.check("while a == 0; list 0; list 5; grow 3; end", [], [(2, 0), (3, 5)], 5, 3)
        self.check(f"while a == 0; wait {FAR}; list 1; grow 15; end", [], [(FAR + 2, 1)], FAR + 4, 15)
        cycle = [(2 + 5 * k, k * (k - 1) // 2 + 1) for k in range(16)]
        self.check("while a == a; list 1; grow a; add a 1; end", [], cycle, 80, 120)

    def test_head_and_cycle_are_parted_at_first(self):
        # The list of 6 ends exactly at the step of the first repeated state.
        self.check("list 6; while a == 0; list 3; grow 2; end", [(1, 6)], [(3, 3)], 4, 2)
        # The first repeated state stands behind the first list of the loop: only then a is 1.
        self.check(
            "while a == a; list 3; set a 1; grow 2; end",
            [(2, 3)], [(7, 5)], 5, 2,
        )
        self.check(
            "list 4; grow 9; list 0; while a == a; list 0; list b; grow 1; end",
            [(1, 4), (3, 9)], [(5, 9), (6, 9)], 5, 1,
        )
        self.check("while a < 2; list a; grow 1; add a 1; if a == 2; set a 1; end; end",
                   [(2, 0)], [(8, 2)], 7, 1)

    def test_an_if_with_an_else(self):
        self.check("while a == a; if b == 0; list 1; set b 1; else; list 2; set b 0; end; grow 4; end",
                   [], [(3, 1), (10, 6)], 13, 8)


class UntilTest(unittest.TestCase):
    def test_ages_around_a_listed_step(self):
        listing = Listing(ODD)
        for age, rows in ((0, []), (1, []), (2, [(2, 3)]), (3, [(2, 3)]), (5, [(2, 3)]), (6, [(2, 3), (6, 5)])):
            self.assertEqual(listing.until(age), rows)
        listing = Listing(LATE)
        self.assertEqual(listing.until(0), [])
        self.assertEqual(listing.until(1), [(1, 4)])
        self.assertEqual(listing.until(3), [(1, 4), (3, 9)])
        self.assertEqual(listing.until(10), [(1, 4), (3, 9), (5, 9), (6, 9), (10, 10)])
        self.assertEqual(listing.until(11), [(1, 4), (3, 9), (5, 9), (6, 9), (10, 10), (11, 10)])

    def test_a_list_without_growth_goes_on(self):
        self.assertEqual(Listing(SAME).until(17), [(1, 9), (3, 7), (7, 2), (10, 7), (14, 2), (17, 7)])

    def test_finite_lists(self):
        for age in (16, 17, 10 ** 60, 10 ** 99):
            self.assertEqual(Listing(FINITE).until(age)[-1], (14, 5))
        self.assertEqual(Listing(FINITE).until(13), [(1, 3), (3, 8), (13, 8)])
        self.assertEqual(Listing(("collector", ())).until(10 ** 60), [])
        self.assertEqual(Listing(program("collector; while a == 0; grow 3; end")).until(10 ** 60), [])

    def test_exactly_1000_tuples(self):
        listing = Listing(ODD)
        for age in (3998, 3999, 4001):
            self.assertEqual(listing.until(age), [(2 + 4 * k, 3 + 2 * k) for k in range(1000)])
        for age in (4002, 4003, 10 ** 60, 10 ** 99):
            with self.assertRaises(TooMany):
                listing.until(age)

    def test_the_head_counts(self):
        listing = Listing(LATE)
        # Two in the head, and 499 rounds of two.
        age = 6 + 498 * 5
        self.assertEqual(len(listing.until(age)), 1000)
        self.assertEqual(len(listing.until(age + 3)), 1000)
        with self.assertRaises(TooMany):
            listing.until(age + 4)

    def test_a_finite_list_of_more_than_1000(self):
        listing = Listing(program("collector; add a 1; while a != 0; add b 1; while b != 0; "
                                  "list a; list 0; list b; list 2; list 1; add b 1; end; add a 1; end"))
        self.assertEqual((len(listing.head), listing.cycle), (1125, []))
        self.assertEqual(listing.until(listing.head[999][0]), listing.head[:1000])
        for age in (listing.head[1000][0], 10 ** 60):
            with self.assertRaises(TooMany):
                listing.until(age)

    def test_long_waits(self):
        listing = Listing(program(f"collector; while a == 0; wait {FAR}; list 1; grow 15; end"))
        period = FAR + 4
        self.assertEqual(listing.until(FAR + 1), [])
        self.assertEqual(listing.until(10 ** 32 + 10 ** 30), [(FAR + 2 + k * period, 1 + 15 * k) for k in range(100)])
        with self.assertRaises(TooMany):
            listing.until(10 ** 60)

    def test_what_is_no_age(self):
        for age in (*NO_INTEGERS, -1, -10 ** 99, nested_list(20), nested_tuple(20)):
            for collector in (ODD, FINITE):
                with self.assertRaises(BadSteps, msg=repr(age)):
                    Listing(collector).until(age)


class FirstOutsideTest(unittest.TestCase):
    def check(self, collector, barred, expected):
        self.assertEqual(Listing(collector).first_outside(barred), expected)

    def test_in_the_head(self):
        self.check(LATE, [], (1, 4))
        self.check(LATE, [9, 10, -4], (1, 4))
        self.check(LATE, [4], (3, 9))
        self.check(FINITE, [3], (3, 8))
        self.check(FINITE, [8, 3, 3], (14, 5))

    def test_in_the_first_round(self):
        self.check(ODD, [], (2, 3))
        self.check(PAIRS, [0], (3, 5))
        self.check(SAME, [9], (3, 7))
        self.check(SAME, [7, 9], (7, 2))

    def test_in_further_rounds(self):
        self.check(LATE, [9, 4], (10, 10))
        self.check(LATE, [11, 10, 4, 9, 13], (20, 12))
        self.check(PAIRS, [5, 0], (7, 3))
        self.check(PAIRS, [5, 0, 3, 6], (8, 8))
        self.check(ODD, [3 + 2 * k for k in range(2000)], (8002, 4003))
        self.check(ODD, [3 + 2 * k for k in reversed(range(2000))], (8002, 4003))

    def test_none(self):
        self.check(FINITE, [5, 8, 3], None)
        self.check(SAME, [2, 9, 7, 1], None)
        self.check(("collector", ()), [], None)
        self.check(program("collector; while a == 0; grow 3; end"), [], None)
        self.check(program("collector; list 5; while a == 0; grow 3; end"), [5], None)
        self.check(program("collector; list 5; while a == 0; grow 3; end"), [6], (1, 5))

    def test_far_steps_and_integers(self):
        self.check(program(f"collector; while a == 0; wait {FAR}; list 1; grow 15; end"), [1, 16, 10 ** 99],
                   (FAR + 2 + 2 * (FAR + 4), 31))


class FirstInsideTest(unittest.TestCase):
    def check(self, collector, members, expected):
        self.assertEqual(Listing(collector).first_inside(members), expected)

    def test_in_the_head(self):
        self.check(LATE, [4], (1, 4))
        self.check(LATE, [9, 4, 10], (1, 4))
        self.check(LATE, [10, 9, 9, -1], (3, 9))
        self.check(FINITE, [8, 5], (3, 8))

    def test_in_the_first_round(self):
        self.check(ODD, [3, 5], (2, 3))
        self.check(PAIRS, [5, 3], (3, 5))
        self.check(SAME, [2], (7, 2))
        self.check(SAME, [2, 7], (3, 7))

    def test_in_further_rounds(self):
        self.check(ODD, [5], (6, 5))
        self.check(LATE, [11, 12, 3], (15, 11))
        self.check(PAIRS, [11], (13, 11))
        self.check(PAIRS, [9, 11], (13, 11))
        self.check(PAIRS, [12, 9], (17, 9))

    def test_several_tuples_that_list_the_same(self):
        # 6 comes with the second tuple in the first round, and with the first one two rounds later.
        both = program("collector; while a == 0; list 0; list 6; grow 3; end")
        self.check(both, [6], (3, 6))
        self.check(both, [3], (7, 3))
        self.check(both, [3, 9], (7, 3))
        self.check(both, [9], (8, 9))
        other = program("collector; while a == 0; list 6; list 0; grow 3; end")
        self.check(other, [6], (2, 6))
        self.check(other, [9], (7, 9))
        self.check(other, [3, 9], (7, 9))
        self.check(other, [3], (8, 3))

    def test_in_far_rounds(self):
        rounds = 10 ** 25
        self.check(ODD, [3 + 2 * rounds], (2 + 4 * rounds, 3 + 2 * rounds))
        self.check(ODD, [3 + 2 * rounds, 4, 10 ** 99, 5 + 2 * rounds], (2 + 4 * rounds, 3 + 2 * rounds))
        self.check(PAIRS, [5 + 3 * rounds], (3 + 5 * rounds, 5 + 3 * rounds))
        slow = program(f"collector; while a == 0; wait {FAR}; list 1; grow 15; end")
        far = 1 + 15 * 10 ** 90
        self.check(slow, [far], (FAR + 2 + (FAR + 4) * 10 ** 90, far))

    def test_none(self):
        self.check(ODD, [], None)
        self.check(ODD, [4, 1, 2, -3, -5, 10 ** 99], None)
        self.check(PAIRS, [1, 2, 4, 7, 10 ** 99, -3], None)
        self.check(SAME, [8, 14, -7], None)
        self.check(FINITE, [13, 0, -3], None)
        self.check(("collector", ()), [0], None)
        self.check(program("collector; while a == 0; grow 3; end"), [0, 3, 6], None)

    def test_long_lists(self):
        # The cycle has many tuples, and no member is listed before very far rounds.
        many = program("collector; while a == a; add b 1; list 0; list b; list 7; list 15; grow b; grow 15; grow a; "
                       "if b == 0; add a 1; end; end")
        listing = Listing(many)
        self.assertGreater(len(listing.cycle), 800)
        members = [10 ** 40 + k for k in range(2000)]
        found = listing.first_inside(members)
        rounds = (found[0] - listing.cycle[0][0]) // listing.period
        back = (found[0] - rounds * listing.period, found[1] - rounds * listing.shift)
        self.assertIn(back, listing.cycle)
        self.assertIn(found[1], members)
        barred = [integer for step, integer in plain_rows(many, 500)]
        step, integer = listing.first_outside(barred)
        self.assertEqual(next(row for row in plain_rows(many, 5000) if row[1] not in barred), (step, integer))


class ErrorTest(unittest.TestCase):
    def test_collectors_only(self):
        teller = program("teller; answer 0")
        for thing in NO_PROGRAMS + (teller, ("teller", ()), nested_list(20), nested_tuple(20)):
            with self.assertRaises(BadProgram):
                Listing(thing)


class EqualityTest(unittest.TestCase):
    def test_equal(self):
        for collector in (ODD, PAIRS, LATE, SAME, FINITE, ("collector", ())):
            self.assertTrue(Listing(collector) == Listing(collector))
            self.assertFalse(Listing(collector) != Listing(collector))
        self.assertEqual(Listing(program("collector; list 3; set a 1")), Listing(program("collector; list 3; wait 9")))

    def test_each_attribute_counts(self):
        for one, other in (
            ("list 3", "list 4"),
            ("list 3", "wait 1; list 3"),
            ("while a == 0; list 3; end", "while a == 0; list 4; end"),
            ("while a == 0; list 3; end", "while a == 0; list 3; wait 1; end"),
            ("while a == 0; list 3; grow 1; end", "while a == 0; list 3; grow 2; end"),
            ("list 3", "list 3; while a == 0; end"),
        ):
            one, other = Listing(program("collector; " + one)), Listing(program("collector; " + other))
            self.assertFalse(one == other)
            self.assertTrue(one != other)
        for name in ("head", "cycle", "period", "shift"):
            one, other = Listing(ODD), Listing(ODD)
            setattr(other, name, "changed")
            self.assertNotEqual(one, other)
            self.assertNotEqual(other, one)

    def test_beside_other_things(self):
        listing = Listing(ODD)
        for thing in (None, True, 0, "collector", ODD, [], (), parts(listing), vars(listing), object(), ANY):
            self.assertFalse(listing == thing)
            self.assertTrue(listing != thing)


class OwnListsTest(unittest.TestCase):
    def test_arguments_stay_as_they_are(self):
        listing = Listing(LATE)
        barred = [9, 4, 4, -1]
        listing.first_outside(barred)
        listing.first_inside(barred)
        self.assertEqual(barred, [9, 4, 4, -1])

    def test_results_may_be_changed(self):
        listing = Listing(LATE)
        rows = listing.until(11)
        listing.until(11).clear()
        self.assertEqual(listing.until(11), rows)
        listing.head.clear()
        listing.cycle.append((7, 7))
        self.assertEqual(listing.until(11), rows)
        self.assertEqual([listing.first_outside([4]), listing.first_inside([10, 7])], [(3, 9), (10, 10)])
        self.assertEqual(parts(Listing(LATE)), ([(1, 4), (3, 9)], [(5, 9), (6, 9)], 5, 1))


class DrawnTest(unittest.TestCase):
    def check(self, collector, source):
        listing = Listing(collector)
        rows = plain_rows(collector, 600)
        if len(rows) > 0:
            many = source.randrange(len(rows) + 1)
            until = listing.until(rows[many - 1][0] if many else 0)
            self.assertEqual(until, rows[:many])
        integers = [integer for step, integer in rows[:300]]
        barred = [integer for integer in integers if source.randrange(20)] + [source.randrange(-5, 60)]
        source.shuffle(barred)
        outside = [row for row in rows if row[1] not in barred]
        if outside or len(rows) < 600:
            self.assertEqual(listing.first_outside(barred), outside[0] if outside else None)
        members = [source.randrange(-5, 90) for _ in range(source.randrange(5))]
        inside = [row for row in rows if row[1] in members]
        found = listing.first_inside(members)
        if inside:
            self.assertEqual(found, inside[0])
        elif found is not None:
            self.assertGreater(found[0], rows[-1][0])
            self.assertIn(found[1], members)
        return "endless" if listing.is_endless() else "same" if listing.cycle else "finite"

    def looping(self, source):
        before = random_body(source, "collector", 4, [4])
        condition = source.choice((("a", "==", "a"), ("b", "!=", 7), ("a", "<", 3)))
        inside = random_body(source, "collector", 3, [12]) + source.choice((
            (("add", "b", 1),),
            (("add", "a", "b"), ("list", "a")),
            (("list", "b"), ("grow", 2), ("list", 1), ("add", "b", 3)),
            (("list", 0), ("list", 9), ("grow", "a"), ("grow", 3), ("list", "b"), ("add", "a", 4)),
        ))
        return ("collector", before + (("while", condition, inside),))

    def test_against_plain_lists(self):
        source = random.Random(5)
        collectors = random_programs(29, 400)[1::2] + [self.looping(source) for _ in range(500)]
        kinds = [self.check(collector, source) for collector in collectors]
        self.assertGreater(min(kinds.count(kind) for kind in ("endless", "same", "finite")), 25)


if __name__ == "__main__":
    unittest.main()
