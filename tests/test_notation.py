import copy
import random
import unittest

from neithertells.errors import BadProgram, BadText
from neithertells.notation import read, show
from neithertells.programs import is_program
from samples import COLLECTOR_STATEMENTS, CONDITIONS, NO_PROGRAMS, SHARED_STATEMENTS, TELLER_STATEMENTS
from samples import nested, nested_list, nested_tuple, random_programs

IF = ("a", "==", 1)

# Programs and their texts, written by hand.
PAIRS = (
    (("teller", ()), "teller"),
    (("collector", ()), "collector"),
    (("teller", (("set", "a", 0),)), "teller\nset a 0"),
    (("collector", (("set", "b", 15),)), "collector\nset b 15"),
    (("teller", (("add", "a", 10),)), "teller\nadd a 10"),
    (("teller", (("add", "b", "a"),)), "teller\nadd b a"),
    (("teller", (("wait", 1),)), "teller\nwait 1"),
    (("teller", (("wait", 10 ** 30),)), "teller\nwait 1000000000000000000000000000000"),
    (("teller", (("ask", "+", 3, "a"),)), "teller\nask x+3 a"),
    (("teller", (("ask", "+", "b", "a"),)), "teller\nask x+b a"),
    (("teller", (("ask", "-", 15, "b"),)), "teller\nask x-15 b"),
    (("teller", (("ask", "-", "a", "a"),)), "teller\nask x-a a"),
    (("teller", (("ask", "=", 0, "b"),)), "teller\nask 0 b"),
    (("teller", (("ask", "=", "b", "b"),)), "teller\nask b b"),
    (("teller", (("answer", 0), ("answer", 1))), "teller\nanswer 0\nanswer 1"),
    (("collector", (("grow", 15), ("grow", "a"))), "collector\ngrow 15\ngrow a"),
    (("collector", (("list", 0), ("list", "b"))), "collector\nlist 0\nlist b"),
    (("teller", (("if", IF, (), ()),)), "teller\nif a == 1\nend"),
    (("teller", (("if", IF, (("answer", 1),), ()),)), "teller\nif a == 1\nanswer 1\nend"),
    (("teller", (("if", IF, (), (("answer", 1),)),)), "teller\nif a == 1\nelse\nanswer 1\nend"),
    (
        ("teller", (("if", ("b", "!=", 0), (("answer", 1),), (("wait", 2), ("answer", 0))), ("set", "a", 1))),
        "teller\nif b != 0\nanswer 1\nelse\nwait 2\nanswer 0\nend\nset a 1",
    ),
    (("collector", (("while", ("a", "<", "b"), ()),)), "collector\nwhile a < b\nend"),
    (
        ("collector", (("while", IF, (("if", IF, (), (("list", 1),)), ("while", IF, ()))), ("grow", 1))),
        "collector\nwhile a == 1\nif a == 1\nelse\nlist 1\nend\nwhile a == 1\nend\nend\ngrow 1",
    ),
    (
        ("teller", (("if", IF, (("if", IF, (("set", "a", 0),), ()),), (("if", IF, (), (("set", "b", 1),)),)),)),
        "teller\nif a == 1\nif a == 1\nset a 0\nend\nelse\nif a == 1\nelse\nset b 1\nend\nend",
    ),
)


def bad_line(text):
    """The line of the BadText that reading this raises."""
    try:
        read(text)
    except BadText as error:
        return error.line
    raise AssertionError(f"BadText is not raised for {text!r}")


def is_text(text):
    try:
        read(text)
    except BadText:
        return False
    return True


def can_be_continued(lines):
    """Whether some program's text begins with these lines: one statement and some ends are enough for any of them."""
    for middle in ([], ["set a 0"]):
        for ends in range(6):
            if is_text("\n".join(lines + middle + ["end"] * ends)):
                return True
    return False


class ExampleTest(unittest.TestCase):
    def test_interface(self):
        program = ("teller", (("ask", "+", "b", "a"), ("if", ("a", "==", 1), (("answer", 1),), ())))
        self.assertEqual(show(program), "teller\nask x+b a\nif a == 1\nanswer 1\nend")
        self.assertEqual(
            read("collector\nwhile a == 0\nlist 3\ngrow 2\nend"),
            ("collector", (("while", ("a", "==", 0), (("list", 3), ("grow", 2))),)),
        )
        self.assertEqual(bad_line("teller\nset a 16"), 1)

    def test_by_name(self):
        self.assertEqual(show(program=("teller", (("answer", 0),))), "teller\nanswer 0")
        self.assertEqual(read(text="teller\nanswer 0"), ("teller", (("answer", 0),)))


class ThereAndBackTest(unittest.TestCase):
    def check_sorts(self, thing):
        """Tuples, strings and integers throughout."""
        self.assertIn(type(thing), (tuple, str, int), thing)
        if type(thing) is tuple:
            for part in thing:
                self.check_sorts(part)

    def test_pairs(self):
        for program, text in PAIRS:
            self.assertEqual(show(program), text)
            self.assertEqual(read(text), program)
            self.check_sorts(read(text))

    def test_each_statement(self):
        for kind, own in (("teller", TELLER_STATEMENTS), ("collector", COLLECTOR_STATEMENTS)):
            for statement in own + SHARED_STATEMENTS:
                program = (kind, (statement,))
                self.assertEqual(read(show(program)), program)
            for condition in CONDITIONS:
                program = (kind, (("if", condition, (), ()), ("while", condition, ())))
                self.assertEqual(read(show(program)), program)

    def test_all_values_and_variables(self):
        for term in [*range(16), "a", "b"]:
            for variable in ("a", "b"):
                self.assertEqual(read(f"teller\nadd {variable} {term}")[1], (("add", variable, term),))
                self.assertEqual(read(f"teller\nask x+{term} {variable}")[1], (("ask", "+", term, variable),))
                self.assertEqual(read(f"teller\nask x-{term} {variable}")[1], (("ask", "-", term, variable),))
                self.assertEqual(read(f"teller\nask {term} {variable}")[1], (("ask", "=", term, variable),))
                for sign in ("==", "!=", "<"):
                    condition = (variable, sign, term)
                    text = f"teller\nwhile {variable} {sign} {term}\nend"
                    self.assertEqual(read(text)[1], (("while", condition, ()),))
                    text = f"teller\nif {variable} {sign} {term}\nend"
                    self.assertEqual(read(text)[1], (("if", condition, (), ()),))
            self.assertEqual(read(f"collector\ngrow {term}\nlist {term}")[1], (("grow", term), ("list", term)))

    def test_greatest_programs(self):
        programs = (
            ("teller", (("wait", 10 ** 30),) * 24),
            ("teller", (nested("if", 4), nested("if", 4, second=True), nested("while", 4))),
            ("teller", (nested("if", 3, second=True, inner=(("answer", 0),) * 21),)),
            ("collector", (nested("while", 3, inner=(("list", 0),) * 21),)),
        )
        for program in programs:
            self.assertTrue(is_program(program))
            self.assertEqual(read(show(program)), program)

    def test_random_programs(self):
        for program in random_programs(2, 500):
            text = show(program)
            self.assertEqual(read(text), program)
            self.check_sorts(read(text))
            self.assertEqual(show(read(text)), text)


class ShowErrorTest(unittest.TestCase):
    def test_no_programs(self):
        for thing in NO_PROGRAMS + (nested_list(20), nested_tuple(20)):
            before = copy.deepcopy(thing)
            self.assertRaises(BadProgram, show, thing)
            self.assertEqual(thing, before)

    def test_bounds(self):
        self.assertRaises(BadProgram, show, ("teller", (("answer", 0),) * 25))
        self.assertRaises(BadProgram, show, ("teller", (nested("if", 5),)))
        self.assertRaises(BadProgram, show, ("teller", (("answer", True),)))
        self.assertRaises(BadProgram, show, ("teller", (("wait", 10 ** 30 + 1),)))


class FirstLineTest(unittest.TestCase):
    def test_bad_first_lines(self):
        for first in ("", " ", "Teller", "teller ", " teller", "tellers", "collector ", "COLLECTOR", "set a 0", "end",
                      "else", "0", "teller collector", "teller;", "teller\r", "t" * 5000):
            self.assertEqual(bad_line(first), 0, first)
            self.assertEqual(bad_line(first + "\nanswer 0"), 0, first)
            self.assertEqual(bad_line(first + "\nfoo\n"), 0, first)
        self.assertEqual(bad_line("\nteller"), 0)
        self.assertEqual(bad_line("\n"), 0)

    def test_what_is_no_string(self):
        for thing in (None, True, False, 0, 7, -1, 10 ** 99, [], (), ["teller"], ("teller",), ("teller", ()),
                      [["teller\nanswer 0"]], b"teller", nested_list(20), nested_tuple(20)):
            self.assertIsNone(bad_line(thing), thing)

    def test_what_is_no_string_is_not_changed(self):
        thing = ["teller", ["answer 0"]]
        self.assertIsNone(bad_line(thing))
        self.assertEqual(thing, ["teller", ["answer 0"]])


class LineTest(unittest.TestCase):
    def check_bad(self, line, *, kinds=("teller", "collector")):
        """The line can stand nowhere, neither in the outer body nor in others."""
        for kind in kinds:
            self.assertEqual(bad_line(f"{kind}\n{line}"), 1, line)
            self.assertEqual(bad_line(f"{kind}\n{line}\n{line}"), 1, line)
            self.assertEqual(bad_line(f"{kind}\nset a 0\n{line}\nset a 0"), 2, line)
            self.assertEqual(bad_line(f"{kind}\nif a == 0\n{line}\nend"), 2, line)
            self.assertEqual(bad_line(f"{kind}\nif a == 0\nset a 0\nelse\n{line}\nend"), 4, line)
            self.assertEqual(bad_line(f"{kind}\nwhile a == 0\n{line}\nend"), 2, line)
            self.assertEqual(bad_line(f"{kind}\nwhile a == 0\nend\n{line}"), 3, line)

    def test_unknown_words(self):
        for line in ("foo", "", "SET a 0", "Set a 0", "a", "0", "x", "test a == 0 4", "jump 0", "teller", "collector",
                     "x+1", "a == 0", "elif a == 0", "End", "ELSE", "END", "None", "# set a 0", "until a == 0"):
            self.check_bad(line)

    def test_a_part_missing(self):
        for line in ("set", "set a", "set 0", "add", "add a", "wait", "if", "if a", "if a ==", "if == 0", "if a 0",
                     "while", "while a", "while a ==", "while == 0", "while a 0"):
            self.check_bad(line)
        for line in ("ask", "ask x+1", "ask a", "ask 1", "answer"):
            self.check_bad(line, kinds=("teller",))
        for line in ("grow", "list"):
            self.check_bad(line, kinds=("collector",))

    def test_a_part_too_many(self):
        for line in ("set a 0 0", "set a 0 a", "add a b b", "add a 1 1", "wait 1 1", "wait 1 0", "if a == 0 0",
                     "if a == 0 :", "while a == 0 0", "end 0", "end end", "else 0", "else if a == 0", "end if"):
            self.check_bad(line)
        for line in ("ask x+1 a a", "ask 1 a 1", "ask = 1 a", "ask + 1 a", "ask - b a", "ask x + 1 a", "ask x +1 a",
                     "ask x+ 1 a", "answer 0 0", "answer 1 a"):
            self.check_bad(line, kinds=("teller",))
        for line in ("grow 1 1", "list 1 1", "list a b", "grow a 0"):
            self.check_bad(line, kinds=("collector",))

    def test_spaces(self):
        good = ["set a 0", "add a b", "wait 1", "if a == 0", "while a == 0"]
        for kind, own in (("teller", ["ask x+1 a", "ask 1 a", "answer 0"]), ("collector", ["grow 1", "list a"])):
            for line in good + own:
                self.check_bad(" " + line, kinds=(kind,))
                self.check_bad(line + " ", kinds=(kind,))
                self.check_bad("  " + line, kinds=(kind,))
                self.check_bad("\t" + line, kinds=(kind,))
                self.check_bad(line + "\r", kinds=(kind,))
                for at, sign in enumerate(line):
                    if sign == " ":
                        self.check_bad(line[:at] + " " + line[at:], kinds=(kind,))
                        self.check_bad(line[:at] + "\t" + line[at + 1:], kinds=(kind,))
                        self.check_bad(line[:at] + line[at + 1:], kinds=(kind,))
        for line in ("end ", " end", "else ", " else", " ", "  ", "x + 1"):
            self.check_bad(line)
        for line in ("ask x+1a", "ask x +1 a", "ask x+ a", "ask x- a", "ask  a"):
            self.check_bad(line, kinds=("teller",))

    def test_signs_of_conditions(self):
        for sign in ("=", ">", "<=", ">=", "===", "<>", "!", "is", "+", "0", "a", "=<"):
            self.check_bad(f"if a {sign} 0")
            self.check_bad(f"while a {sign} 0")
        for line in ("if a==0", "if a ==0", "if a== 0", "if 0 == a", "if 0 == 0", "if c == 0", "if A == 0", "if a == c",
                     "if (a == 0)", "if a == 0:", "while 0 < a", "while a < n", "while x < a"):
            self.check_bad(line)

    def test_variables_and_terms(self):
        for line in ("set c 0", "set 0 0", "set A 0", "set a a", "set a b", "set 1 a", "add 1 a", "add a c", "add c a",
                     "add a A", "add a ab", "wait a", "wait b", "set ab 0", "set a x", "add a x+1"):
            self.check_bad(line)
        for line in ("ask x+c a", "ask c a", "ask x a", "ask x+1 1", "ask x+1 c", "ask 1 1", "ask y+1 a", "ask X+1 a",
                     "ask x*1 a", "ask x=1 a", "ask +1 a", "ask -1 a", "ask x++1 a", "ask x--1 a", "ask x+-1 a",
                     "ask x+ab a", "ask =1 a", "ask 1+x a", "ask xa a", "ask x1 a", "ask a+1 a", "ask x+a+1 a",
                     "answer a", "answer b", "answer 2", "answer 10", "answer -1"):
            self.check_bad(line, kinds=("teller",))
        for line in ("list c", "grow c", "list n", "list n+1", "grow A", "list x+1"):
            self.check_bad(line, kinds=("collector",))

    def check_bad_number(self, number):
        for line in (f"set a {number}", f"add a {number}", f"wait {number}", f"if a == {number}", f"while a < {number}"):
            self.check_bad(line)
        for line in (f"ask {number} a", f"ask x+{number} a", f"ask x-{number} a", f"answer {number}"):
            self.check_bad(line, kinds=("teller",))
        for line in (f"grow {number}", f"list {number}"):
            self.check_bad(line, kinds=("collector",))

    def test_numbers_in_another_form(self):
        for number in ("00", "01", "001", "015", "+1", "-1", "+0", "-0", "1_0", "_1", "1_", "0_1", "1.0", "1.", ".5",
                       "0x1", "0b1", "1e0", "1e1", "True", "False", "None", "one", "1,0", "1;", "'1'", "(1)", "", "1-",
                       "1+0", "\u0661", "\u00b2", "\uff11", "1\u0661"):
            self.check_bad_number(number)

    def test_long_numbers(self):
        for number in ("9" * 4500, "0" * 4500, "0" * 4499 + "1", "1" + "0" * 4499, "-" + "9" * 4500, "1" * 4301):
            self.check_bad_number(number)

    def test_numbers_around_the_bounds(self):
        for number in ("16", "17", "99", "100", "1000"):
            for line in (f"set a {number}", f"add a {number}", f"if a == {number}", f"while a < {number}"):
                self.check_bad(line)
            for line in (f"ask {number} a", f"ask x+{number} a", f"ask x-{number} a", f"answer {number}"):
                self.check_bad(line, kinds=("teller",))
            for line in (f"grow {number}", f"list {number}"):
                self.check_bad(line, kinds=("collector",))

    def test_waits_around_the_bounds(self):
        for steps in (0, 10 ** 30 + 1, 10 ** 31, 10 ** 31 - 1, 2 * 10 ** 30):
            self.check_bad(f"wait {steps}")
        for steps in (1, 16, 100, 10 ** 30 - 1, 10 ** 30):
            self.assertEqual(read(f"teller\nwait {steps}"), ("teller", (("wait", steps),)))
        self.check_bad(f"wait 0{10 ** 30}")
        self.check_bad(f"wait 0{10 ** 29}")

    def test_statements_of_the_other_kind(self):
        for line in ("list 0", "list a", "grow 1", "grow b"):
            self.check_bad(line, kinds=("teller",))
        for line in ("ask 0 a", "ask x+1 a", "ask x-a b", "answer 0", "answer 1"):
            self.check_bad(line, kinds=("collector",))

    def test_empty_lines(self):
        self.assertEqual(bad_line("teller\n"), 1)
        self.assertEqual(bad_line("teller\nanswer 0\n"), 2)
        self.assertEqual(bad_line("teller\n\nanswer 0"), 1)
        self.assertEqual(bad_line("teller\nif a == 0\n\nend"), 2)
        self.assertEqual(bad_line("teller\nif a == 0\nend\n"), 3)
        self.assertEqual(bad_line(""), 0)

    def test_other_line_ends(self):
        self.assertEqual(bad_line("teller\r\nanswer 0"), 0)
        self.assertEqual(bad_line("teller\ranswer 0"), 0)
        self.assertEqual(bad_line("teller\nanswer 0\x0b"), 1)
        self.assertEqual(bad_line("teller\nanswer 0\x0canswer 1"), 1)
        self.assertEqual(bad_line("teller\nanswer 0\u2028answer 1"), 1)


class StructureTest(unittest.TestCase):
    def test_end_that_cannot_stand_there(self):
        self.assertEqual(bad_line("teller\nend"), 1)
        self.assertEqual(bad_line("teller\nanswer 0\nend"), 2)
        self.assertEqual(bad_line("teller\nif a == 0\nend\nend"), 3)
        self.assertEqual(bad_line("teller\nwhile a == 0\nend\nend"), 3)
        self.assertEqual(bad_line("collector\nwhile a == 0\nif a == 0\nend\nend\nend\nlist 0"), 5)

    def test_else_that_cannot_stand_there(self):
        self.assertEqual(bad_line("teller\nelse"), 1)
        self.assertEqual(bad_line("teller\nanswer 0\nelse\nanswer 1"), 2)
        self.assertEqual(bad_line("teller\nwhile a == 0\nelse\nset a 1\nend"), 2)
        self.assertEqual(bad_line("teller\nwhile a == 0\nset a 1\nelse\nset a 1\nend"), 3)
        self.assertEqual(bad_line("teller\nif a == 0\nend\nelse\nset a 1\nend"), 3)
        self.assertEqual(bad_line("teller\nif a == 0\nwhile a == 0\nelse\nset a 1\nend\nend"), 3)
        self.assertEqual(bad_line("teller\nif a == 0\nelse\nelse\nset a 1\nend"), 3)
        self.assertEqual(bad_line("teller\nif a == 0\nelse\nset a 1\nelse\nset a 1\nend"), 4)
        self.assertEqual(bad_line("teller\nif a == 0\nelse\nset a 1\nelse"), 4)

    def test_else_directly_followed_by_end(self):
        self.assertEqual(bad_line("teller\nif a == 0\nelse\nend"), 3)
        self.assertEqual(bad_line("teller\nif a == 0\nset a 1\nelse\nend"), 4)
        self.assertEqual(bad_line("teller\nwhile a == 0\nif a == 0\nelse\nend\nend"), 4)
        self.assertEqual(bad_line("teller\nif a == 0\nif a == 0\nelse\nset a 1\nend\nelse\nend"), 7)

    def test_missing_end(self):
        self.assertEqual(bad_line("teller\nif a == 0"), 2)
        self.assertEqual(bad_line("teller\nwhile a == 0"), 2)
        self.assertEqual(bad_line("teller\nwhile a == 0\nset a 1\nset b 1"), 4)
        self.assertEqual(bad_line("teller\nif a == 0\nelse"), 3)
        self.assertEqual(bad_line("teller\nif a == 0\nelse\nset a 1"), 4)
        self.assertEqual(bad_line("teller\nif a == 0\nif a == 0\nend"), 4)
        self.assertEqual(bad_line("teller\nif a == 0\nelse\nif a == 0\nend"), 5)

    def test_the_first_bad_line_counts(self):
        self.assertEqual(bad_line("teller\nif a == 0\nfoo\nend\nend\nend"), 2)
        self.assertEqual(bad_line("teller\nset a 16\nif a == 0"), 1)
        self.assertEqual(bad_line("teller\nif a == 0\nlist 1"), 2)

    def test_25th_statement(self):
        for last in ("answer 0", "if a == 0", "while a == 0", "wait 1", "foo", "else", "end", ""):
            self.assertEqual(bad_line("teller" + "\nanswer 0" * 24 + "\n" + last), 25, last)
        self.assertEqual(bad_line("teller" + "\nanswer 0" * 30), 25)
        # Only an end may follow 24 statements of which one is still to be ended.
        text = "teller\nwhile a == 0" + "\nset a 1" * 23
        self.assertEqual(bad_line(text), 25)
        self.assertEqual(bad_line(text + "\nset a 1\nend"), 25)
        self.assertEqual(bad_line(text + "\nend\nset a 1"), 26)
        self.assertTrue(is_text(text + "\nend"))

    def test_25th_statement_with_inner_ones(self):
        pair = "\nif a == 0\nset a 1\nelse\nset a 2\nend"
        self.assertTrue(is_text("teller" + pair * 8))
        self.assertEqual(bad_line("teller" + pair * 8 + "\nset a 1"), 41)
        self.assertEqual(bad_line("teller" + pair * 9), 41)
        # The 24th statement is the first body of the last if, so that its else cannot stand.
        self.assertEqual(bad_line("teller\nset a 1" + pair * 8), 39)

    def test_else_after_24_statements(self):
        text = "teller\nif a == 0" + "\nset a 1" * 23
        self.assertTrue(is_text(text + "\nend"))
        self.assertEqual(bad_line(text + "\nelse"), 25)
        self.assertEqual(bad_line(text + "\nelse\nset a 1\nend"), 25)
        text = "teller\nif a == 0" + "\nset a 1" * 22
        self.assertTrue(is_text(text + "\nelse\nset a 1\nend"))
        self.assertEqual(bad_line(text + "\nelse"), 25)
        self.assertEqual(bad_line(text + "\nelse\nend"), 25)
        self.assertEqual(bad_line(text + "\nelse\nset a 1\nset a 1\nend"), 26)
        self.assertTrue(is_text(text + "\nelse\nif a == 0\nend\nend"))
        self.assertEqual(bad_line(text + "\nelse\nif a == 0\nelse"), 26)

    def test_else_with_the_last_statement_in_an_inner_if(self):
        text = "teller" + "\nset a 1" * 22 + "\nif a == 0\nif a == 0"
        self.assertEqual(bad_line(text + "\nelse"), 25)
        self.assertEqual(bad_line(text + "\nend\nelse"), 26)
        self.assertTrue(is_text(text + "\nend\nend"))

    def test_depth_5(self):
        for opening in ("if a == 0", "while a == 0"):
            text = "teller" + ("\n" + opening) * 4
            for inner in ("set a 1", "if a == 0", "while a == 0", "answer 0", "else", "foo", ""):
                self.assertEqual(bad_line(f"{text}\n{inner}\nend\nend\nend\nend"), 5, inner)
            self.assertEqual(bad_line(text), 5)
            self.assertTrue(is_text(text + "\nend" * 4))
            self.assertTrue(is_text("teller" + ("\n" + opening) * 3 + "\nanswer 0" + "\nend" * 3))

    def test_depth_5_behind_an_else(self):
        text = "teller" + "\nif a == 0\nelse" * 3 + "\nif a == 0"
        self.assertTrue(is_text(text + "\nend" * 4))
        self.assertEqual(bad_line(text + "\nset a 1"), 8)
        self.assertEqual(bad_line(text + "\nelse"), 8)
        self.assertEqual(bad_line(text + "\nelse\nset a 1" + "\nend" * 4), 8)

    def test_else_in_an_if_of_depth_4(self):
        text = "teller" + "\nwhile a == 0" * 3 + "\nif a == 0"
        self.assertEqual(bad_line(text + "\nelse\nset a 1" + "\nend" * 4), 5)
        self.assertEqual(bad_line(text + "\nelse\nend" + "\nend" * 3), 5)
        text = "teller" + "\nwhile a == 0" * 2 + "\nif a == 0"
        self.assertTrue(is_text(text + "\nelse\nset a 1" + "\nend" * 3))
        text = "teller" + "\nif a == 0" * 4 + "\nend"
        self.assertTrue(is_text(text + "\nelse\nset a 1" + "\nend" * 3))

    def test_texts_with_changes(self):
        """Whatever is read has this text, and the bad line is the first one behind which no program goes on."""
        source = random.Random(3)
        extra = ["end", "else", "if a == 0", "while b < a", "set a 1", "set a 16", "list 1", "answer 0", "", "end "]
        for program in random_programs(4, 400):
            lines = show(program).split("\n")
            for _ in range(source.randrange(1, 4)):
                at = source.randrange(1, len(lines) + 1)
                how = source.randrange(3)
                if how == 0:
                    lines.insert(at, source.choice(extra))
                elif how == 1:
                    del lines[at:at + 1]
                else:
                    lines[at:at + 1] = [source.choice(extra)]
            text = "\n".join(lines)
            if is_text(text):
                self.assertEqual(show(read(text)), text)
            else:
                line = bad_line(text)
                self.assertTrue(can_be_continued(lines[:line]), text)
                self.assertTrue(line == len(lines) or not can_be_continued(lines[:line + 1]), text)


class StateTest(unittest.TestCase):
    def test_nothing_is_left_of_an_earlier_call(self):
        text = "teller\nif a == 0\nset a 1\nelse\nset a 2\nend"
        expected = ("teller", (("if", ("a", "==", 0), (("set", "a", 1),), (("set", "a", 2),)),))
        for _ in range(3):
            self.assertEqual(bad_line("teller" + "\nif a == 0" * 3), 4)
            self.assertEqual(bad_line("collector" + "\nlist 1" * 25), 25)
            self.assertEqual(read(text), expected)
            self.assertEqual(show(expected), text)


if __name__ == "__main__":
    unittest.main()
