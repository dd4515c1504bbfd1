import copy
import unittest

from neithertells.programs import LONGEST_WAIT, MOST_DEPTH, MOST_STATEMENTS, is_program
from samples import COLLECTOR_STATEMENTS, CONDITIONS, NO_PROGRAMS, SHARED_STATEMENTS, TELLER_STATEMENTS
from samples import nested, nested_list, nested_tuple, random_programs

VALUES = list(range(16))
VARIABLES = ["a", "b"]
TERMS = VALUES + VARIABLES
GOOD_CONDITIONS = [(v, s, t) for v in VARIABLES for s in ("==", "!=", "<") for t in TERMS]
BODY = [(), (("set", "a", 1),)]

# Everything that is tried for each part of each statement.
POOL = (
    [-2, -1, *range(19), 255, 10 ** 30 - 1, 10 ** 30, 10 ** 30 + 1, -(10 ** 30), 10 ** 99]
    + [True, False, None, 1.0, 0.0]
    + ["", "a", "b", "c", "n", "x", "A", "B", "ab", " a", "a ", "0", "1", "15"]
    + ["==", "!=", "<", ">", "<=", ">=", "=", "+", "-", "*", "+=", "x+", "set", "if"]
    + [[], [0], ["a"], ["a", "==", 0], [("set", "a", 1)], (), (0,), ("a",), (("a", "==", 0),)]
    + [("a", "=="), ("a", "==", 0, 0), ("a", "==", 16), ("a", "==", -1), ("a", "==", True), ("a", "==", "c")]
    + [("c", "==", 0), (0, "==", "a"), ("a", ">", 0), ("a", "=", 0), ("a", 0, "=="), ("a", "==", None)]
    + [("a", "==", [0]), (["a"], "==", 0), ("a", ["=="], 0), ("set", "a", 1), (("set", "a", 16),), (["set", "a", 1],)]
    + GOOD_CONDITIONS
    + BODY
)

# Each word, whose program it may stand in, and all of the pool that may stand in each place behind it.
BOTH = ("teller", "collector")
FORMS = (
    ("set", BOTH, (VARIABLES, VALUES)),
    ("add", BOTH, (VARIABLES, TERMS)),
    ("wait", BOTH, ([*range(1, 19), 255, 10 ** 30 - 1, 10 ** 30],)),
    ("if", BOTH, (GOOD_CONDITIONS, BODY, BODY)),
    ("while", BOTH, (GOOD_CONDITIONS, BODY)),
    ("ask", ("teller",), (["+", "-", "="], TERMS, VARIABLES)),
    ("answer", ("teller",), ([0, 1],)),
    ("grow", ("collector",), (TERMS,)),
    ("list", ("collector",), (TERMS,)),
)


def same(one, other):
    """Whether two things are equal and of the same sorts throughout: True is not 1."""
    return repr(one) == repr(other)


def among(thing, things):
    return any(same(thing, other) for other in things)


class ConstantTest(unittest.TestCase):
    def test_bounds(self):
        self.assertEqual([MOST_STATEMENTS, MOST_DEPTH, LONGEST_WAIT], [24, 4, 10 ** 30])


class ExampleTest(unittest.TestCase):
    def test_interface(self):
        self.assertIs(is_program(("teller", (("ask", "=", 0, "a"), ("answer", 0)))), True)
        self.assertIs(is_program(("collector", (("answer", 0),))), False)

    def test_by_name(self):
        self.assertIs(is_program(thing=("teller", ())), True)
        self.assertIs(is_program(thing=None), False)


class StatementTest(unittest.TestCase):
    def check(self, statement, kind, expected):
        self.assertIs(is_program((kind, (statement,))), expected, (kind, statement))

    def test_empty_programs(self):
        self.assertIs(is_program(("teller", ())), True)
        self.assertIs(is_program(("collector", ())), True)

    def test_each_statement_in_both_kinds(self):
        for statement in SHARED_STATEMENTS:
            self.check(statement, "teller", True)
            self.check(statement, "collector", True)
        for statement in TELLER_STATEMENTS:
            self.check(statement, "teller", True)
            self.check(statement, "collector", False)
        for statement in COLLECTOR_STATEMENTS:
            self.check(statement, "teller", False)
            self.check(statement, "collector", True)
        for condition in CONDITIONS:
            for kind in BOTH:
                self.check(("if", condition, (), ()), kind, True)
                self.check(("while", condition, ()), kind, True)

    def test_statements_of_the_other_kind_in_bodies(self):
        condition = ("a", "==", 0)
        for kind, statements in (("teller", COLLECTOR_STATEMENTS), ("collector", TELLER_STATEMENTS)):
            for statement in statements:
                self.check(("if", condition, (statement,), ()), kind, False)
                self.check(("if", condition, (), (statement,)), kind, False)
                self.check(("while", condition, (statement,)), kind, False)

    def test_each_part_with_everything_in_its_place(self):
        for word, kinds, places in FORMS:
            sample = [allowed[-1] for allowed in places]
            for at, allowed in enumerate(places):
                for thing in POOL:
                    parts = sample[:at] + [thing] + sample[at + 1:]
                    for kind in BOTH:
                        self.check((word, *parts), kind, kind in kinds and among(thing, allowed))

    def test_each_statement_with_all_that_may_stand_in_each_place(self):
        for word, kinds, places in FORMS:
            for at, allowed in enumerate(places):
                for thing in allowed:
                    parts = [other[0] for other in places]
                    parts[at] = thing
                    for kind in BOTH:
                        self.check((word, *parts), kind, kind in kinds)

    def test_a_part_missing_or_too_many(self):
        for word, kinds, places in FORMS:
            sample = [allowed[0] for allowed in places]
            for kind in kinds:
                self.check((word, *sample), kind, True)
                self.check((word,), kind, False)
                self.check((), kind, False)
                for at in range(len(sample)):
                    self.check((word, *sample[:at], *sample[at + 1:]), kind, False)
                for extra in (0, 1, "a", None, (), sample[-1]):
                    self.check((word, *sample, extra), kind, False)

    def test_a_statement_that_is_no_tuple(self):
        for word, kinds, places in FORMS:
            sample = [allowed[0] for allowed in places]
            for kind in kinds:
                self.check([word, *sample], kind, False)
                self.check(((word, *sample),), kind, False)
                self.check(word, kind, False)

    def test_words(self):
        for word in ("SET", "Set", "set ", " set", "", "a", "test", "jump", "teller", None, 0, True, [], ["set"], ("set",)):
            for kind in BOTH:
                self.check((word, "a", 0), kind, False)
                self.check((word, 0), kind, False)
                self.check((word, ("a", "==", 0), ()), kind, False)

    def test_waits(self):
        for steps, expected in ((0, False), (1, True), (10 ** 30, True), (10 ** 30 + 1, False), (-1, False)):
            for kind in BOTH:
                self.check(("wait", steps), kind, expected)

    def test_values(self):
        for value, expected in ((-1, False), (0, True), (15, True), (16, False), (True, False), (False, False)):
            self.check(("set", "a", value), "teller", expected)
            self.check(("add", "a", value), "teller", expected)
            self.check(("ask", "+", value, "a"), "teller", expected)
            self.check(("if", ("a", "<", value), (), ()), "teller", expected)
            self.check(("while", ("a", "<", value), ()), "teller", expected)
            self.check(("grow", value), "collector", expected)
            self.check(("list", value), "collector", expected)

    def test_answers(self):
        for value, expected in ((-1, False), (0, True), (1, True), (2, False), (True, False), (False, False), ("a", False)):
            self.check(("answer", value), "teller", expected)

    def test_bodies_that_are_no_tuples(self):
        for body in (None, 0, "", "set a 1", [], [("set", "a", 1)], ("set", "a", 1), (None,), ((),), ([],)):
            self.check(("if", ("a", "==", 0), body, ()), "teller", False)
            self.check(("if", ("a", "==", 0), (), body), "teller", False)
            self.check(("while", ("a", "==", 0), body), "teller", False)


class BoundTest(unittest.TestCase):
    def test_statements_of_the_outer_body(self):
        self.assertIs(is_program(("teller", (("answer", 0),) * 24)), True)
        self.assertIs(is_program(("teller", (("answer", 0),) * 25)), False)
        self.assertIs(is_program(("collector", (("list", 0),) * 24)), True)
        self.assertIs(is_program(("collector", (("list", 0),) * 25)), False)

    def test_statements_of_all_bodies(self):
        one = ("set", "a", 1)
        condition = ("a", "==", 0)
        for extra, expected in ((0, True), (1, False)):
            for outside, first, second in ((extra, 0, 0), (0, extra, 0), (0, 0, extra)):
                branch = ("if", condition, (one,) * (7 + first), (one,) * (8 + second))
                loop = ("while", condition, (one,) * 3)
                # 4 + (1 + 7 + 8) + (1 + 3) statements, and perhaps an extra one in one of the bodies.
                program = ("teller", (one,) * (4 + outside) + (branch, loop))
                self.assertIs(is_program(program), expected, program)
            loop = ("while", condition, (one,) * (23 + extra))
            self.assertIs(is_program(("collector", (loop,))), expected)
            inner = ("while", condition, (("if", condition, (one,) * 10, (one,) * (12 + extra)),))
            self.assertIs(is_program(("collector", (inner,))), expected)

    def test_depth_of_first_bodies(self):
        for word in ("if", "while"):
            self.assertIs(is_program(("teller", (nested(word, 4),))), True)
            self.assertIs(is_program(("teller", (nested(word, 5),))), False)
            self.assertIs(is_program(("teller", (nested(word, 3, inner=(("answer", 0),)),))), True)
            self.assertIs(is_program(("teller", (nested(word, 4, inner=(("answer", 0),)),))), False)

    def test_depth_of_second_bodies(self):
        self.assertIs(is_program(("teller", (nested("if", 4, second=True),))), True)
        self.assertIs(is_program(("teller", (nested("if", 5, second=True),))), False)
        self.assertIs(is_program(("teller", (nested("if", 3, second=True, inner=(("answer", 0),)),))), True)
        self.assertIs(is_program(("teller", (nested("if", 4, second=True, inner=(("answer", 0),)),))), False)

    def test_depth_does_not_add_up_over_neighbours(self):
        self.assertIs(is_program(("teller", (nested("if", 4), nested("while", 4), nested("if", 4, second=True)))), True)
        self.assertIs(is_program(("teller", (nested("if", 4), nested("while", 5)))), False)

    def test_a_body_that_is_used_again_and_again(self):
        body = ()
        for _ in range(19):
            body = (("if", ("a", "==", 0), body, body),) * 20
        self.assertIs(is_program(("teller", body)), False)

    def test_random_programs(self):
        for program in random_programs(1, 300):
            self.assertIs(is_program(program), True, program)


class ThingTest(unittest.TestCase):
    def test_things_that_are_no_programs(self):
        for thing in NO_PROGRAMS:
            self.assertIs(is_program(thing), False, thing)

    def test_nested_things(self):
        for depth in range(1, 21):
            for thing in (nested_list(depth), nested_tuple(depth)):
                self.assertIs(is_program(thing), False)
                if thing != ():
                    self.assertIs(is_program(("teller", thing)), False)
                self.assertIs(is_program(("teller", (thing,))), False)
                self.assertIs(is_program((thing, ())), False)
                self.assertIs(is_program(("teller", (("set", "a", thing),))), False)
                self.assertIs(is_program(("teller", (("if", thing, (), ()),))), False)
                self.assertIs(is_program(("teller", ((thing, "a", 0),))), False)

    def test_nothing_is_changed(self):
        thing = ["teller", [["set", "a", [1]], ("if", ["a", "==", 0], [], [])]]
        before = copy.deepcopy(thing)
        self.assertIs(is_program(thing), False)
        self.assertEqual(thing, before)
        inner = [("set", "a", 0)]
        self.assertIs(is_program(("teller", inner)), False)
        self.assertEqual(inner, [("set", "a", 0)])

    def test_the_same_again(self):
        program = ("teller", (nested("if", 4), ("answer", 1)))
        for _ in range(3):
            self.assertIs(is_program(program), True)
            self.assertIs(is_program(("teller", (("answer", 0),) * 25)), False)


if __name__ == "__main__":
    unittest.main()
