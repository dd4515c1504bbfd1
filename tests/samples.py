"""Programs and things that several tests use."""

import random

TELLER_STATEMENTS = (
    ("ask", "+", "b", "a"),
    ("ask", "-", 15, "b"),
    ("ask", "=", 0, "a"),
    ("answer", 0),
    ("answer", 1),
)

COLLECTOR_STATEMENTS = (
    ("grow", 0),
    ("grow", 15),
    ("grow", "a"),
    ("list", 0),
    ("list", 15),
    ("list", "b"),
)

SHARED_STATEMENTS = (
    ("set", "a", 0),
    ("set", "b", 15),
    ("add", "a", 0),
    ("add", "b", 15),
    ("add", "a", "b"),
    ("wait", 1),
    ("wait", 10 ** 30),
)

CONDITIONS = (("a", "==", 0), ("b", "!=", 15), ("a", "<", "b"))

# Things of every sort that may be passed where an error, or True or False, is described.
NO_PROGRAMS = (
    None,
    True,
    False,
    0,
    -1,
    10 ** 99,
    "",
    "teller",
    "teller\nanswer 0",
    "x" * 5000,
    [],
    (),
    ["teller", ()],
    ["teller", []],
    ("teller", []),
    ("teller",),
    ("teller", (), ()),
    ("teller", None),
    ("teller", "answer 0"),
    ("teller", ""),
    ("teller", 0),
    ((), "teller"),
    ("Teller", ()),
    ("teller ", ()),
    ("", ()),
    (None, ()),
    (0, ()),
    (["teller"], ()),
    (("teller",), ()),
    ("teller", ("answer", 0)),
    ("teller", [("answer", 0)]),
    ("teller", (["answer", 0],)),
    ("teller", ((),)),
    ("teller", (None,)),
    ("teller", (0,)),
    ("teller", ("answer",)),
    ("teller", ((0,),)),
    ("teller", ((None, "a", 0),)),
    ("teller", (([], "a", 0),)),
    ("teller", ((("set",), "a", 0),)),
    ("teller", (("Set", "a", 0),)),
    ("teller", (("", "a", 0),)),
    ("teller", (("test", ("a", "==", 0), 1),)),
    ("teller", (("jump", 0),)),
    ("teller", (("else",),)),
    ("teller", (("end",),)),
    ("teller", (("list", 0),)),
    ("collector", (("answer", 0),)),
    (("set", "a", 0),) * 2000,
    ("teller", (("set", "a", 0),) * 1900),
)


def nested_list(depth):
    """A list in a list and so on."""
    thing = []
    for _ in range(depth - 1):
        thing = [thing]
    return thing


def nested_tuple(depth):
    """A tuple in a tuple and so on."""
    thing = ()
    for _ in range(depth - 1):
        thing = (thing,)
    return thing


def nested(word, depth, *, second=False, inner=()):
    """A statement of depth 1 that contains others, up to this depth; `inner` is the innermost body."""
    body = inner
    for _ in range(depth):
        if word == "while":
            body = (("while", ("a", "==", 0), body),)
        elif second:
            body = (("if", ("a", "==", 0), (), body),)
        else:
            body = (("if", ("a", "==", 0), body, ()),)
    return body[0]


def random_body(source, kind, depth, room):
    """A random body with at most room[0] statements, inner ones included; what it uses is taken from room."""
    own = TELLER_STATEMENTS if kind == "teller" else COLLECTOR_STATEMENTS
    body = []
    for _ in range(source.randrange(5)):
        if room[0] == 0:
            break
        room[0] -= 1
        choice = source.randrange(4)
        inner_depth = depth + 1 if depth < 4 else None
        if choice == 0:
            condition = source.choice(CONDITIONS)
            first = random_body(source, kind, inner_depth, room) if inner_depth else ()
            second = random_body(source, kind, inner_depth, room) if inner_depth else ()
            body.append(("if", condition, first, second))
        elif choice == 1:
            condition = source.choice(CONDITIONS)
            inside = random_body(source, kind, inner_depth, room) if inner_depth else ()
            body.append(("while", condition, inside))
        else:
            body.append(source.choice(own + SHARED_STATEMENTS))
    return tuple(body)


def random_programs(seed, many):
    """Programs of both kinds, the same ones each time."""
    source = random.Random(seed)
    programs = []
    for at in range(many):
        kind = ("teller", "collector")[at % 2]
        programs.append((kind, random_body(source, kind, 1, [24])))
    return programs
