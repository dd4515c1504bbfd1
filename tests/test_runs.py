import random
import unittest
from unittest.mock import ANY

from neithertells.assembly import assemble
from neithertells.errors import BadProgram, BadSteps
from neithertells.notation import read
from neithertells.runs import Run, run
from samples import NO_INTEGERS, NO_PROGRAMS, is_true, nested_list, nested_tuple, plain_run, program, random_programs

FAR = 10 ** 30
# Asks about 0 to 15, one after the other, and never ends.
ROUND = program("teller; while a == a; ask b a; add b 1; end")
# Takes 8 steps.
SLOW = program("teller; ask 0 a; wait 5; ask 1 a; answer 1")
TELLS = program("teller; ask x-1 a; if a == 1; answer 1; else; answer 0; end")


def parts(done):
    """All attributes of a run."""
    return (done.outcome, done.answer, done.length, done.first, done.second, done.asked)


def plain_repeat(teller, position, members):
    """The steps at the first and the second time of the first repeated state, or None; straight from the instructions."""
    code = assemble(teller)
    at, a, b, taken = 0, 0, 0, 0
    states = {}
    while at < len(code) and code[at][0] != "answer":
        if (at, a, b) in states:
            return (states[at, a, b], taken)
        states[at, a, b] = taken
        word, *rest = code[at]
        held = {"a": a, "b": b}
        taken += rest[0] if word == "wait" else 1
        at += 1
        if word == "test" and not is_true(held, rest[0]):
            at = rest[1]
        if word == "jump":
            at = rest[0]
        if word == "set":
            held[rest[0]] = rest[1]
        if word == "add":
            held[rest[0]] = (held[rest[0]] + held.get(rest[1], rest[1])) % 16
        if word == "ask":
            term = held.get(rest[1], rest[1])
            place = {"+": position + term, "-": position - term, "=": term}[rest[0]]
            held[rest[2]] = int(place >= 0 and place in members)
        a, b = held["a"], held["b"]
    return None


class ExampleTest(unittest.TestCase):
    def test_interface(self):
        teller = read("teller\nask x-1 a\nif a == 1\nanswer 1\nelse\nanswer 0\nend")
        done = run(teller, 5, [4])
        self.assertEqual([done.outcome, done.answer, done.length, done.asked], ["answered", 1, 3, [4]])
        self.assertEqual(run(teller, 5, [], limit=2).outcome, "running")
        idle = run(read("teller\nwhile a < 5\nwait 7\nend"), 0, [])
        self.assertEqual([idle.outcome, idle.first, idle.second, idle.asked], ["silent", 0, 9, []])

    def test_by_position_and_by_name(self):
        self.assertEqual(run(TELLS, 5, [4], limit=3), run(program=TELLS, position=5, members=[4], limit=3))
        self.assertEqual(run(limit=None, members=[4], position=5, program=TELLS), run(TELLS, 5, [4]))
        with self.assertRaises(TypeError):
            run(TELLS, 5, [4], 3)


class OutcomeTest(unittest.TestCase):
    def check(self, teller, position, members, expected, **limit):
        done = run(teller, position, members, **limit)
        self.assertIs(type(done), Run)
        self.assertIs(type(done.asked), list)
        self.assertEqual(parts(done), expected)

    def test_answered(self):
        self.check(TELLS, 5, [4], ("answered", 1, 3, None, None, [4]))
        self.check(TELLS, 5, [5], ("answered", 0, 3, None, None, [4]))
        self.check(program("teller; answer 0; answer 1"), 0, [], ("answered", 0, 1, None, None, []))
        self.check(program("teller; answer 1; answer 0"), 0, [], ("answered", 1, 1, None, None, []))

    def test_ended(self):
        self.check(("teller", ()), 0, [], ("ended", None, 0, None, None, []))
        self.check(program("teller; ask x+2 a; wait 4"), 7, [], ("ended", None, 5, None, None, [9]))
        self.check(program("teller; if a == 1; answer 0; end"), 7, [], ("ended", None, 1, None, None, []))

    def test_silent(self):
        self.check(program("teller; while a == 0; end"), 0, [], ("silent", None, None, 0, 2, []))
        self.check(program("teller; set b 2; while a < 5; wait 7; end"), 0, [], ("silent", None, None, 1, 10, []))
        self.check(program("teller; ask 3 b; while a == 0; ask x+1 b; end"), 8, [3],
                   ("silent", None, None, 3, 6, [3, 9]))

    def test_running(self):
        self.check(program("teller; ask 3 b; answer 0"), 8, [], ("running", None, None, None, None, [3]), limit=1)
        self.check(program("teller; ask 3 b; answer 0"), 8, [], ("running", None, None, None, None, []), limit=0)

    def test_a_variable_goes_through_its_values(self):
        self.check(ROUND, 0, [], ("silent", None, None, 0, 64, list(range(16))))
        self.check(ROUND, 0, [3, 4], ("silent", None, None, 0, 64, list(range(16))))
        # The first round ends with a = 1, so the first repeated state is the one behind the first ask.
        self.check(ROUND, 0, [15], ("silent", None, None, 2, 66, list(range(16))))
        late = program(f"teller; set b 9; wait {FAR}; while a != 1; wait 2; add b 3; end")
        self.check(late, 0, [], ("silent", None, None, FAR + 1, FAR + 1 + 16 * 5, []))
        both = program("teller; while a == a; add a 1; if a == 0; add b 1; end; end")
        self.check(both, 0, [], ("silent", None, None, 0, 16 * (16 * 4 + 1), []))

    def test_asked_up_to_the_second_time(self):
        # The first round skips the ask, the second one does it, and the third one comes to a state of the second.
        teller = program("teller; while b == b; if a == 1; ask x+7 a; set a 2; end; if a == 0; set a 1; end; end")
        self.check(teller, 1, [], ("silent", None, None, 9, 13, [8]))

    def test_asks(self):
        for text, members, answer, asked in (
            ("ask x+3 a", [23], 1, [23]), ("ask x+3 a", [22, 24], 0, [23]),
            ("ask x-3 a", [17], 1, [17]), ("ask x-3 a", [16, 18, -17], 0, [17]),
            ("ask 3 a", [3], 1, [3]), ("ask 3 a", [23, 17, -3], 0, [3]),
            ("ask x+0 a", [20], 1, [20]), ("ask x-0 a", [20], 1, [20]), ("ask 0 a", [0], 1, [0]),
            ("ask 0 a", [20], 0, [0]), ("ask x+15 a", [35], 1, [35]), ("ask x-15 a", [5], 1, [5]),
        ):
            teller = program(f"teller; {text}; if a == 1; answer 1; end; answer 0")
            self.check(teller, 20, members, ("answered", answer, 3, None, None, asked))

    def test_asks_with_variables(self):
        for sign, place in (("x+", 24), ("x-", 16), ("", 4)):
            teller = program(f"teller; set a 4; ask {sign}a a; if a == 1; answer 1; end; answer 0")
            self.check(teller, 20, [place], ("answered", 1, 4, None, None, [place]))
            self.check(teller, 20, [20], ("answered", 0, 4, None, None, [place]))

    def test_an_ask_sets_its_variable_to_0_too(self):
        self.check(program("teller; set b 9; ask 0 b; if b == 0; answer 1; end"), 5, [], ("answered", 1, 4, None, None, [0]))

    def test_positions_below_0(self):
        teller = program("teller; ask x-5 a; if a == 1; answer 1; else; answer 0; end")
        self.check(teller, 2, [-3], ("answered", 0, 3, None, None, []))
        self.check(teller, 4, [-1, 1, 0], ("answered", 0, 3, None, None, []))
        self.check(teller, 5, [-1], ("answered", 0, 3, None, None, [0]))
        self.check(teller, 5, [-1, 0], ("answered", 1, 3, None, None, [0]))
        self.check(teller, 6, [-1, 1], ("answered", 1, 3, None, None, [1]))

    def test_members_in_any_order_and_twice(self):
        for members in ([9, 4, 1], [4, 4], [1, 9, 4, 9, 1], [-4, 4], [10 ** 99, 4, -10 ** 99]):
            self.check(TELLS, 5, members, ("answered", 1, 3, None, None, [4]))
        self.check(TELLS, 5, list(range(2000)), ("answered", 1, 3, None, None, [4]))

    def test_asked_is_ascending_without_duplicates(self):
        teller = program("teller; ask x+9 a; ask 3 a; ask x+1 b; ask x+9 b; ask 3 a; ask 0 a; answer 0")
        self.check(teller, 2, [], ("answered", 0, 7, None, None, [0, 3, 11]))

    def test_long_positions(self):
        far = 10 ** 99
        self.check(TELLS, far, [far - 1], ("answered", 1, 3, None, None, [far - 1]))
        self.check(TELLS, far, [far], ("answered", 0, 3, None, None, [far - 1]))

    def test_long_waits(self):
        self.check(program(f"teller; wait {FAR}; wait {FAR}; answer 1"), 0, [], ("answered", 1, 2 * FAR + 1, None, None, []))
        teller = program(f"teller; add a 1; while a != 0; wait {FAR}; add a 1; end; answer 0")
        length = 1 + 15 * (FAR + 3) + 2
        self.check(teller, 0, [], ("answered", 0, length, None, None, []))
        self.check(teller, 0, [], ("answered", 0, length, None, None, []), limit=length)
        self.check(teller, 0, [], ("running", None, None, None, None, []), limit=length - 1)
        self.check(program(f"teller; wait {FAR}"), 0, [], ("ended", None, FAR, None, None, []))
        self.check(program(f"teller; while a == 0; wait {FAR}; end"), 0, [], ("silent", None, None, 0, FAR + 2, []))

    def test_sums_are_taken_modulo_16(self):
        for term, count in ((1, 16), (5, 16), (4, 4), (8, 2)):
            teller = program(f"teller; add a {term}; while a != 0; add a {term}; end; answer 0")
            self.check(teller, 0, [], ("answered", 0, 1 + 3 * (count - 1) + 2, None, None, []))
        self.check(program("teller; set a 9; add a a; set b 3; add b a; if b == 5; answer 1; end"), 0, [],
                   ("answered", 1, 6, None, None, []))

    def test_conditions(self):
        for sign, results in (("==", (0, 1, 0)), ("!=", (1, 0, 1)), ("<", (1, 0, 0))):
            for value, result in zip((4, 5, 6), results):
                teller = program(f"teller; set b {value}; set a 5; if b {sign} a; answer 1; end; answer 0")
                self.check(teller, 0, [], ("answered", result, 4, None, None, []))
                teller = program(f"teller; set b {value}; if b {sign} 5; answer 1; end; answer 0")
                self.check(teller, 0, [], ("answered", result, 3, None, None, []))

    def test_what_takes_a_step(self):
        for text, length in (
            ("answer 0", 1),
            ("set a 0; add a 0; ask 0 a; wait 1; answer 0", 5),
            ("if a == 0; end; answer 0", 2),
            ("if a == 1; end; answer 0", 2),
            ("if a == 0; set b 1; end; answer 0", 3),
            ("if a == 1; set b 1; end; answer 0", 2),
            ("if a == 0; set b 1; else; set b 2; end; answer 0", 4),
            ("if a == 1; set b 1; else; set b 2; end; answer 0", 3),
            ("if a == 0; else; set b 2; end; answer 0", 3),
            ("if a == 1; else; set b 2; end; answer 0", 3),
            ("while a == 1; set a 1; end; answer 0", 2),
            ("while a < 1; add a 1; end; answer 0", 5),
            ("while a < 2; add a 1; end; answer 0", 8),
            ("while a < 2; add a 1; if b == 0; wait 3; else; wait 4; end; end; answer 0", 18),
        ):
            self.check(program("teller; " + text), 0, [], ("answered", 0, length, None, None, [0] if "ask" in text else []))


class LimitTest(unittest.TestCase):
    def check(self, teller, limit, expected):
        self.assertEqual(parts(run(teller, 5, [], limit=limit)), expected)

    def running(self, *asked):
        return ("running", None, None, None, None, list(asked))

    def test_around_the_length(self):
        answered = ("answered", 1, 8, None, None, [0, 1])
        for limit in (None, 8, 9, 10 ** 99):
            self.check(SLOW, limit, answered)
        self.check(SLOW, 0, self.running())
        for limit in range(1, 7):
            self.check(SLOW, limit, self.running(0))
        self.check(SLOW, 7, self.running(0, 1))

    def test_a_run_that_ends(self):
        ends = program("teller; ask 2 a; wait 3")
        for limit in (None, 4, 5, 10 ** 60):
            self.check(ends, limit, ("ended", None, 4, None, None, [2]))
        for limit in (1, 2, 3):
            self.check(ends, limit, self.running(2))
        self.check(ends, 0, self.running())
        for limit in (None, 0, 1):
            self.check(("teller", ()), limit, ("ended", None, 0, None, None, []))

    def test_a_silent_run_is_running(self):
        self.check(ROUND, 0, self.running())
        self.check(ROUND, 1, self.running())
        self.check(ROUND, 2, self.running(0))
        self.check(ROUND, 9, self.running(0, 1))
        self.check(ROUND, 10, self.running(0, 1, 2))
        self.check(ROUND, 61, self.running(*range(15)))
        for limit in (62, 63, 64, 65, 1000, 10 ** 99):
            self.check(ROUND, limit, self.running(*range(16)))

    def test_waits_that_do_not_fit(self):
        waits = program(f"teller; wait {FAR}; ask 7 a; answer 0")
        for limit in (0, 1, FAR - 1, FAR):
            self.check(waits, limit, self.running())
        self.check(waits, FAR + 1, self.running(7))
        self.check(waits, FAR + 2, ("answered", 0, FAR + 2, None, None, [7]))


class ErrorTest(unittest.TestCase):
    def test_what_is_not_a_tellers_program(self):
        collector = program("collector; list 0")
        for thing in NO_PROGRAMS + (collector, ("collector", ()), nested_list(20), nested_tuple(20)):
            for limit in (None, 5, True, -1, "5"):
                with self.assertRaises(BadProgram):
                    run(thing, 0, [], limit=limit)

    def test_what_is_no_limit(self):
        wrong = [thing for thing in NO_INTEGERS if thing is not None]
        for limit in (*wrong, -1, -10 ** 99, nested_list(20), nested_tuple(20)):
            with self.assertRaises(BadSteps, msg=repr(limit)):
                run(TELLS, 5, [4], limit=limit)


class EqualityTest(unittest.TestCase):
    def test_equal(self):
        for teller in (TELLS, ROUND, SLOW, ("teller", ())):
            self.assertTrue(run(teller, 5, [4]) == run(teller, 5, [4, 4]))
            self.assertFalse(run(teller, 5, [4]) != run(teller, 5, [4, 4]))
        self.assertEqual(run(program("teller; wait 1; answer 0"), 0, []), run(program("teller; wait 1; answer 0"), 9, [3]))

    def test_each_attribute_counts(self):
        for one, other in (
            ("answer 0", "wait 1"),
            ("answer 0", "answer 1"),
            ("answer 0", "wait 1; answer 0"),
            ("wait 2", "wait 3"),
            ("while a == 0; end", "set b 0; while a == 0; end"),
            ("while a == 0; end", "while a == 0; wait 1; end"),
            ("ask 0 a; answer 0", "ask 1 a; answer 0"),
        ):
            one, other = run(program("teller; " + one), 5, []), run(program("teller; " + other), 5, [])
            self.assertFalse(one == other)
            self.assertTrue(one != other)
        for name in ("outcome", "answer", "length", "first", "second", "asked"):
            one, other = run(TELLS, 5, []), run(TELLS, 5, [])
            setattr(other, name, ["changed"])
            self.assertNotEqual(one, other)
            self.assertNotEqual(other, one)

    def test_beside_other_things(self):
        done = run(TELLS, 5, [])
        for thing in (None, True, 0, "answered", [], (), parts(done), list(parts(done)), vars(done), object(), ANY):
            self.assertFalse(done == thing)
            self.assertTrue(done != thing)


class OwnListsTest(unittest.TestCase):
    def test_arguments_stay_as_they_are(self):
        members = [9, 4, 4, -1]
        done = run(TELLS, 5, members)
        self.assertEqual(members, [9, 4, 4, -1])
        members.clear()
        self.assertEqual(parts(done), ("answered", 1, 3, None, None, [4]))

    def test_asked_is_new_each_time(self):
        one, other = run(TELLS, 5, []), run(TELLS, 5, [])
        one.asked.append(7)
        self.assertEqual(other.asked, [4])
        self.assertEqual(run(TELLS, 5, []).asked, [4])


class DrawnTest(unittest.TestCase):
    def test_against_plain_runs(self):
        source = random.Random(17)
        outcomes = {}
        for teller in random_programs(23, 1200)[::2]:
            position = source.randrange(20)
            members = [source.randrange(-5, 40) for _ in range(source.randrange(20))]
            repeat = plain_repeat(teller, position, members)
            done = run(teller, position, members)
            outcomes[done.outcome] = outcomes.get(done.outcome, 0) + 1
            if repeat is None:
                self.assertEqual(parts(done), plain_run(teller, position, members, 10 ** 40))
            else:
                asked = plain_run(teller, position, members, repeat[1])[5]
                self.assertEqual(parts(done), ("silent", None, None, *repeat, asked))
            for limit in (0, source.randrange(10), source.randrange(200), 10 ** 30 + source.randrange(60)):
                if repeat is None or limit < 200:
                    expected = plain_run(teller, position, members, limit)
                    self.assertEqual(parts(run(teller, position, members, limit=limit)), expected)
        self.assertGreater(min(outcomes.get(name, 0) for name in ("answered", "ended", "silent")), 30)


if __name__ == "__main__":
    unittest.main()
