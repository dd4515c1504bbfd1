import copy
import unittest

from neithertells.assembly import assemble
from neithertells.errors import BadProgram
from neithertells.notation import read
from samples import COLLECTOR_STATEMENTS, NO_PROGRAMS, SHARED_STATEMENTS, TELLER_STATEMENTS
from samples import nested, nested_list, nested_tuple, random_programs

ZERO = ("a", "==", 0)
ONE = ("b", "!=", 1)
LESS = ("a", "<", "b")


def check_targets(test, code, body, start):
    """Follow the words of point 8 through the code of a body; return the number behind it."""
    at = start
    for statement in body:
        if statement[0] == "while":
            behind = check_targets(test, code, statement[2], at + 1)
            test.assertEqual(code[at], ("test", statement[1], behind + 1))
            test.assertEqual(code[behind], ("jump", at))
            at = behind + 1
        elif statement[0] == "if" and statement[3] == ():
            behind = check_targets(test, code, statement[2], at + 1)
            test.assertEqual(code[at], ("test", statement[1], behind))
            at = behind
        elif statement[0] == "if":
            jump = check_targets(test, code, statement[2], at + 1)
            behind = check_targets(test, code, statement[3], jump + 1)
            test.assertEqual(code[at], ("test", statement[1], jump + 1))
            test.assertEqual(code[jump], ("jump", behind))
            at = behind
        else:
            test.assertEqual(code[at], statement)
            at += 1
    return at


class ExampleTest(unittest.TestCase):
    def test_interface(self):
        self.assertEqual(
            assemble(read("collector\nwhile a == 0\nlist 3\ngrow 2\nend")),
            [("test", ("a", "==", 0), 4), ("list", 3), ("grow", 2), ("jump", 0)],
        )

    def test_by_name(self):
        self.assertEqual(assemble(program=("teller", (("answer", 0),))), [("answer", 0)])


class CodeTest(unittest.TestCase):
    def check(self, body, expected, kind="teller"):
        code = assemble((kind, body))
        self.assertIs(type(code), list)
        for instruction in code:
            self.assertIs(type(instruction), tuple)
        self.assertEqual(code, expected)

    def test_empty_programs(self):
        self.check((), [])
        self.check((), [], kind="collector")

    def test_plain_statements(self):
        for kind, own in (("teller", TELLER_STATEMENTS), ("collector", COLLECTOR_STATEMENTS)):
            body = own + SHARED_STATEMENTS
            self.check(body, list(body), kind)

    def test_while(self):
        self.check((("while", ZERO, (("set", "a", 1),)),), [("test", ZERO, 3), ("set", "a", 1), ("jump", 0)])
        self.check(
            (("wait", 5), ("while", LESS, (("set", "a", 1), ("add", "b", 2))), ("answer", 1)),
            [("wait", 5), ("test", LESS, 5), ("set", "a", 1), ("add", "b", 2), ("jump", 1), ("answer", 1)],
        )

    def test_while_with_an_empty_body(self):
        self.check((("while", ZERO, ()),), [("test", ZERO, 2), ("jump", 0)])
        self.check(
            (("while", ZERO, ()), ("while", ONE, ())),
            [("test", ZERO, 2), ("jump", 0), ("test", ONE, 4), ("jump", 2)],
        )

    def test_if_without_else(self):
        self.check((("if", ZERO, (("answer", 0),), ()),), [("test", ZERO, 2), ("answer", 0)])
        self.check(
            (("set", "a", 1), ("if", ZERO, (("set", "b", 1), ("answer", 0)), ()), ("answer", 1)),
            [("set", "a", 1), ("test", ZERO, 4), ("set", "b", 1), ("answer", 0), ("answer", 1)],
        )

    def test_if_with_else(self):
        self.check(
            (("if", ZERO, (("answer", 0),), (("wait", 3), ("answer", 1))),),
            [("test", ZERO, 3), ("answer", 0), ("jump", 5), ("wait", 3), ("answer", 1)],
        )
        self.check(
            (("set", "a", 1), ("if", ZERO, (("set", "b", 1),), (("set", "b", 2),)), ("answer", 1)),
            [("set", "a", 1), ("test", ZERO, 4), ("set", "b", 1), ("jump", 5), ("set", "b", 2), ("answer", 1)],
        )

    def test_if_with_empty_bodies(self):
        self.check((("if", ZERO, (), ()),), [("test", ZERO, 1)])
        self.check((("if", ZERO, (), ()), ("answer", 0)), [("test", ZERO, 1), ("answer", 0)])
        self.check((("if", ZERO, (), (("answer", 0),)),), [("test", ZERO, 2), ("jump", 3), ("answer", 0)])

    def test_nested(self):
        self.check(
            (("while", ZERO, (("if", ONE, (("list", 1),), ()), ("while", LESS, (("grow", 1),)))), ("list", 2)),
            [
                ("test", ZERO, 7),
                ("test", ONE, 3),
                ("list", 1),
                ("test", LESS, 6),
                ("grow", 1),
                ("jump", 3),
                ("jump", 0),
                ("list", 2),
            ],
            kind="collector",
        )
        self.check(
            (("if", ZERO, (("if", ONE, (), (("answer", 0),)),), (("while", LESS, ()), ("if", ONE, (), ()))), ("wait", 1)),
            [
                ("test", ZERO, 5),
                ("test", ONE, 3),
                ("jump", 4),
                ("answer", 0),
                ("jump", 8),
                ("test", LESS, 7),
                ("jump", 5),
                ("test", ONE, 8),
                ("wait", 1),
            ],
        )

    def test_nested_4_deep(self):
        self.check((nested("if", 4),), [("test", ZERO, 4), ("test", ZERO, 4), ("test", ZERO, 4), ("test", ZERO, 4)])
        self.check(
            (nested("while", 4),),
            [
                ("test", ZERO, 8),
                ("test", ZERO, 7),
                ("test", ZERO, 6),
                ("test", ZERO, 5),
                ("jump", 3),
                ("jump", 2),
                ("jump", 1),
                ("jump", 0),
            ],
        )
        self.check(
            (nested("if", 4, second=True),),
            [
                ("test", ZERO, 2),
                ("jump", 7),
                ("test", ZERO, 4),
                ("jump", 7),
                ("test", ZERO, 6),
                ("jump", 7),
                ("test", ZERO, 7),
            ],
        )

    def test_random_programs(self):
        for program in random_programs(5, 300):
            code = assemble(program)
            self.assertEqual(check_targets(self, code, program[1], 0), len(code))


class NewListTest(unittest.TestCase):
    def test_a_new_list_each_time(self):
        program = read("teller\nwhile a == 0\nanswer 0\nend")
        first = assemble(program)
        expected = list(first)
        second = assemble(program)
        first.append(("jump", 0))
        first[0] = None
        self.assertEqual(second, expected)
        second.clear()
        self.assertEqual(assemble(program), expected)
        self.assertEqual(program, read("teller\nwhile a == 0\nanswer 0\nend"))

    def test_a_new_list_for_an_empty_program(self):
        first = assemble(("teller", ()))
        first.append(("answer", 0))
        self.assertEqual(assemble(("teller", ())), [])


class ErrorTest(unittest.TestCase):
    def test_no_programs(self):
        for thing in NO_PROGRAMS + (nested_list(20), nested_tuple(20)):
            before = copy.deepcopy(thing)
            self.assertRaises(BadProgram, assemble, thing)
            self.assertEqual(thing, before)

    def test_bounds(self):
        self.assertRaises(BadProgram, assemble, ("teller", (("answer", 0),) * 25))
        self.assertRaises(BadProgram, assemble, ("teller", (nested("while", 5),)))
        self.assertRaises(BadProgram, assemble, ("teller", (("set", "a", False),)))


if __name__ == "__main__":
    unittest.main()
