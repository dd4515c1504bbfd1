"""What a program is: its kind, its bodies, its statements and their parts."""

MOST_STATEMENTS = 24
MOST_DEPTH = 4
LONGEST_WAIT = 10 ** 30
GREATEST_VALUE = 15

KINDS = ("teller", "collector")
VARIABLES = ("a", "b")
CONDITION_SIGNS = ("==", "!=", "<")
ASK_SIGNS = ("+", "-", "=")

# The words of the statements that have bodies, and how many bodies follow the condition.
BODIES = {"if": 2, "while": 1}

# The words of the plain statements, and what each part behind the word must be.
SHARED_ROLES = {"set": ("variable", "value"), "add": ("variable", "term"), "wait": ("steps",)}
TELLER_ROLES = {"ask": ("sign", "term", "variable"), "answer": ("answer",)}
COLLECTOR_ROLES = {"grow": ("term",), "list": ("term",)}


def is_integer_from(thing, least):
    """Tell whether a thing is an integer that is not below this bound."""
    return isinstance(thing, int) and not isinstance(thing, bool) and least <= thing


def is_integer_from_to(thing, least, greatest):
    """Tell whether a thing is an integer within these bounds."""
    return is_integer_from(thing, least) and thing <= greatest


def is_term(thing):
    """Tell whether a thing is a variable or a value that a variable may have."""
    return thing in VARIABLES or is_integer_from_to(thing, 0, GREATEST_VALUE)


def is_condition(thing):
    """Tell whether a thing is a tuple of a variable, a sign and a term."""
    if not isinstance(thing, tuple) or len(thing) != 3:
        return False
    variable, sign, term = thing
    return variable in VARIABLES and sign in CONDITION_SIGNS and is_term(term)


def is_part(thing, role):
    """Tell whether a thing may be a part with this role in a plain statement."""
    if role == "variable":
        return thing in VARIABLES
    if role == "term":
        return is_term(thing)
    if role == "sign":
        return thing in ASK_SIGNS
    if role == "steps":
        return is_integer_from_to(thing, 1, LONGEST_WAIT)
    if role == "answer":
        return is_integer_from_to(thing, 0, 1)
    return is_integer_from_to(thing, 0, GREATEST_VALUE)


def word_of(thing):
    """Return the word of a statement, or None for a thing that cannot be one."""
    if isinstance(thing, tuple) and len(thing) > 0 and isinstance(thing[0], str):
        return thing[0]
    return None


def roles_of(word, kind):
    """Return the roles behind the word of a plain statement in such a program, or None if there is no such word."""
    if word in SHARED_ROLES:
        return SHARED_ROLES[word]
    if kind == "teller":
        return TELLER_ROLES.get(word)
    return COLLECTOR_ROLES.get(word)


def is_plain_statement(thing, kind):
    """Tell whether a thing is a statement without bodies that may stand in such a program."""
    roles = roles_of(word_of(thing), kind)
    if roles is None or len(thing) != 1 + len(roles):
        return False
    return all([is_part(part, role) for part, role in zip(thing[1:], roles)])


def is_outside_of_statement(thing, kind):
    """Tell whether a thing is a statement in such a program, whatever stands in place of its bodies."""
    word = word_of(thing)
    if word in BODIES:
        return len(thing) == 2 + BODIES[word] and is_condition(thing[1])
    return is_plain_statement(thing, kind)


def bodies_of(statement):
    """Return the bodies of a statement in a tuple, which is empty for a plain one."""
    return statement[2:] if statement[0] in BODIES else ()


def is_program(thing):
    """Tell whether a thing is a program."""
    if not isinstance(thing, tuple) or len(thing) != 2 or thing[0] not in KINDS:
        return False
    kind = thing[0]
    many = 0
    pending = [(thing[1], 1)]
    while pending:
        body, depth = pending.pop()
        if not isinstance(body, tuple):
            return False
        many += len(body)
        if many > MOST_STATEMENTS or (len(body) > 0 and depth > MOST_DEPTH):
            return False
        for statement in body:
            if not is_outside_of_statement(statement, kind):
                return False
            pending.extend([(inner, depth + 1) for inner in bodies_of(statement)])
    return True
