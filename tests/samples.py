"""Programs, machines and things that several tests use, and plain runs and lists to compare with."""

import random

from neithertells.house import SIDES
from neithertells.notation import read

TELLER_STATEMENTS = (
    ("ask", "+", "b", "a"),
    ("ask", "-", 15, "b"),
    ("ask", "=", 0, "a"),
    ("answer", 0),
    ("answer", 1),
)

COLLECTOR_STATEMENTS = (
    ("grow", 0),
    ("grow", 15),
    ("grow", "a"),
    ("list", 0),
    ("list", 15),
    ("list", "b"),
)

SHARED_STATEMENTS = (
    ("set", "a", 0),
    ("set", "b", 15),
    ("add", "a", 0),
    ("add", "b", 15),
    ("add", "a", "b"),
    ("wait", 1),
    ("wait", 10 ** 30),
)

CONDITIONS = (("a", "==", 0), ("b", "!=", 15), ("a", "<", "b"))

# Things of every sort that may be passed where an error, or True or False, is described.
NO_PROGRAMS = (
    None,
    True,
    False,
    0,
    -1,
    10 ** 99,
    "",
    "teller",
    "teller\nanswer 0",
    "x" * 5000,
    [],
    (),
    ["teller", ()],
    ["teller", []],
    ("teller", []),
    ("teller",),
    ("teller", (), ()),
    ("teller", None),
    ("teller", "answer 0"),
    ("teller", ""),
    ("teller", 0),
    ((), "teller"),
    ("Teller", ()),
    ("teller ", ()),
    ("", ()),
    (None, ()),
    (0, ()),
    (["teller"], ()),
    (("teller",), ()),
    ("teller", ("answer", 0)),
    ("teller", [("answer", 0)]),
    ("teller", (["answer", 0],)),
    ("teller", ((),)),
    ("teller", (None,)),
    ("teller", (0,)),
    ("teller", ("answer",)),
    ("teller", ((0,),)),
    ("teller", ((None, "a", 0),)),
    ("teller", (([], "a", 0),)),
    ("teller", ((("set",), "a", 0),)),
    ("teller", (("Set", "a", 0),)),
    ("teller", (("", "a", 0),)),
    ("teller", (("test", ("a", "==", 0), 1),)),
    ("teller", (("jump", 0),)),
    ("teller", (("else",),)),
    ("teller", (("end",),)),
    ("teller", (("list", 0),)),
    ("collector", (("answer", 0),)),
    (("set", "a", 0),) * 2000,
    ("teller", (("set", "a", 0),) * 1900),
)

# Things that are not integers, whatever they look like.
NO_INTEGERS = (None, True, False, "", "0", "1", "x" * 5000, [], (), [0], (1,), [[1]], ((), [None]), ["left"])


def program(text):
    """The program whose text this is, with "; " in place of each newline."""
    return read(text.replace("; ", "\n"))


def nested_list(depth):
    """A list in a list and so on."""
    thing = []
    for _ in range(depth - 1):
        thing = [thing]
    return thing


def nested_tuple(depth):
    """A tuple in a tuple and so on."""
    thing = ()
    for _ in range(depth - 1):
        thing = (thing,)
    return thing


def nested(word, depth, *, second=False, inner=()):
    """A statement of depth 1 that contains others, up to this depth; `inner` is the innermost body."""
    body = inner
    for _ in range(depth):
        if word == "while":
            body = (("while", ("a", "==", 0), body),)
        elif second:
            body = (("if", ("a", "==", 0), (), body),)
        else:
            body = (("if", ("a", "==", 0), body, ()),)
    return body[0]


def random_body(source, kind, depth, room):
    """A random body with at most room[0] statements, inner ones included; what it uses is taken from room."""
    own = TELLER_STATEMENTS if kind == "teller" else COLLECTOR_STATEMENTS
    body = []
    for _ in range(source.randrange(5)):
        if room[0] == 0:
            break
        room[0] -= 1
        choice = source.randrange(4)
        inner_depth = depth + 1 if depth < 4 else None
        if choice == 0:
            condition = source.choice(CONDITIONS)
            first = random_body(source, kind, inner_depth, room) if inner_depth else ()
            second = random_body(source, kind, inner_depth, room) if inner_depth else ()
            body.append(("if", condition, first, second))
        elif choice == 1:
            condition = source.choice(CONDITIONS)
            inside = random_body(source, kind, inner_depth, room) if inner_depth else ()
            body.append(("while", condition, inside))
        else:
            body.append(source.choice(own + SHARED_STATEMENTS))
    return tuple(body)


def random_programs(seed, many):
    """Programs of both kinds, the same ones each time."""
    source = random.Random(seed)
    programs = []
    for at in range(many):
        kind = ("teller", "collector")[at % 2]
        programs.append((kind, random_body(source, kind, 1, [24])))
    return programs


def is_true(held, condition):
    """Whether a condition holds for these values of the variables."""
    variable, sign, term = condition
    other = held.get(term, term)
    return {"==": held[variable] == other, "!=": held[variable] != other, "<": held[variable] < other}[sign]


def plain_steps(body, held):
    """Each thing that takes steps, as it comes up: the number of steps and the statement, or None for a test or jump."""
    for statement in body:
        word = statement[0]
        if word == "while":
            yield 1, None
            while is_true(held, statement[1]):
                yield from plain_steps(statement[2], held)
                yield 1, None
                yield 1, None
        elif word == "if":
            yield 1, None
            if is_true(held, statement[1]):
                yield from plain_steps(statement[2], held)
                if statement[3]:
                    yield 1, None
            else:
                yield from plain_steps(statement[3], held)
        else:
            yield (statement[1] if word == "wait" else 1), statement
            if word == "set":
                held[statement[1]] = statement[2]
            if word == "add":
                held[statement[1]] = (held[statement[1]] + held.get(statement[2], statement[2])) % 16


def plain_run(teller, position, members, limit):
    """The run within a limit, straight from the statements."""
    held = {"a": 0, "b": 0}
    taken = 0
    asked = set()
    for steps, statement in plain_steps(teller[1], held):
        if taken + steps > limit:
            return ("running", None, None, None, None, sorted(asked))
        taken += steps
        word = statement and statement[0]
        if word == "answer":
            return ("answered", statement[1], taken, None, None, sorted(asked))
        if word == "ask":
            term = held.get(statement[2], statement[2])
            place = {"+": position + term, "-": position - term, "=": term}[statement[1]]
            held[statement[3]] = int(place >= 0 and place in members)
            asked.update({place} if place >= 0 else set())
    return ("ended", None, taken, None, None, sorted(asked))


def plain_list(collector, limit):
    """The list within a limit, straight from the statements."""
    held = {"a": 0, "b": 0}
    taken, n = 0, 0
    rows = []
    for steps, statement in plain_steps(collector[1], held):
        if taken + steps > limit:
            break
        taken += steps
        if statement and statement[0] == "grow":
            n += held.get(statement[1], statement[1])
        if statement and statement[0] == "list":
            rows.append((taken, n + held.get(statement[1], statement[1])))
    return rows


def view(house):
    """All that the calls of a house tell."""
    return (
        house.clock(), house.numbers(), house.history(), house.next_act(), len(house), repr(house),
        [house.members(side) for side in SIDES], [house.guards(side) for side in SIDES],
        [(house.rank(number), house.is_satisfied(number), house.starts(number), house.acts(number), house.facts(number))
         for number in house.numbers()],
    )


def drawn_ask(source):
    sign = source.choice("+-=")
    return ("ask", sign, source.choice((0, 1, 2, 3, 5, 8, 13, "a", "b")), source.choice("ab"))


def drawn_plain(source):
    return source.choice((
        ("wait", source.randrange(1, 7)),
        ("set", source.choice("ab"), source.randrange(16)),
        ("add", source.choice("ab"), source.choice((1, 5, "a", "b"))),
    ))


def drawn_condition(source):
    return (source.choice("ab"), source.choice(("==", "!=", "<")), source.choice((0, 1, 1, 3, "a", "b")))


def drawn_teller(source):
    body = []
    for _ in range(source.randrange(5)):
        choice = source.randrange(8)
        if choice < 3:
            body.append(drawn_ask(source))
        elif choice < 5:
            body.append(drawn_plain(source))
        elif choice < 7:
            second = (("answer", source.randrange(2)),) if source.randrange(3) == 0 else ()
            first = (drawn_plain(source), drawn_ask(source), ("answer", source.randrange(2)))[source.randrange(3):]
            body.append(("if", drawn_condition(source), first, second))
        else:
            inside = (drawn_ask(source), drawn_plain(source))[source.randrange(2):]
            body.append(("while", drawn_condition(source), inside))
    body.append(source.choice((("answer", 0), ("answer", 0), ("answer", 0), ("answer", 1), ("wait", 2))))
    return ("teller", tuple(body))


def drawn_listing(source):
    return source.choice((
        ("list", source.choice((0, 1, 2, 3, 4, 9, "a", "b"))), ("grow", source.choice((1, 2, 7, "b"))), drawn_plain(source),
    ))


def drawn_collector(source):
    before = tuple(drawn_listing(source) for _ in range(source.randrange(4)))
    inside = tuple(drawn_listing(source) for _ in range(source.randrange(1, 6)))
    if source.randrange(3) == 0:
        return ("collector", before)
    condition = source.choice((("a", "==", "a"), ("b", "<", 15), ("a", "!=", 1)))
    return ("collector", before + (("while", condition, inside),))


def drawn_machine(source):
    return drawn_teller(source) if source.randrange(10) < 7 else drawn_collector(source)
