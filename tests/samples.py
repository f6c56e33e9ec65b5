"""Programs and other values that several tests use."""

A = ("do", "a")
B = ("do", "b")
C = ("do", "c")
SKIP = ("skip",)


def wide(kind, parts):
    """A program with so many parts, all but one of them directly in the whole."""
    return (kind,) + (A,) * (parts - 1)


def deep(depth):
    """A program of nested reps that is so deep."""
    program = A
    for _ in range(depth - 1):
        program = ("rep", program)
    return program


def choice(letters):
    """A program that does one of these actions."""
    return ("or",) + tuple(("do", letter) for letter in letters)


def nested(kind, depth):
    """A value that is nested so deep and is no program."""
    value = "a"
    for _ in range(depth):
        value = {"tuple": (value,), "list": [value], "dict": {"seq": value}}[kind]
    return value


# One value of every kind that an argument may be, with edges of size and depth.
STRANGE = [
    None, False, True, 0, 1, -1, 10 ** 999, -(10 ** 999), "", "a", "skip", " \t\n~", "a" * 5000,
    (), ((),), [], {}, ("do",), ("seq",), ("or",), ("rep",), (None,), (True,), (0,), ("",),
    ((), ()), ([], {}), [("skip",)], {"do": "a"}, {0: ("skip",)}, {(1, "a"): None},
    (("do", "a"),), (("skip",), ("skip",)), ("skip", "skip"), ("do", "a", "b"), ("start",), ("end",),
    nested("tuple", 60), nested("list", 60), nested("dict", 60),
    (0,) * 9999, [0] * 9999, {number: 0 for number in range(4999)}, [[0] * 99] * 100,
    ("seq",) + (("skip",),) * 4999, ("or",) + (None,) * 9998, ("seq", "a" * 5000, 10 ** 999),
    ("seq", ("do", ["a"]), ("do", {"a": "b"})), ("or", ("do", ("a",)), ("do", None)),
    ("rep", nested("tuple", 58)), ("rep", nested("list", 58)), ("rep", nested("dict", 58)),
]

NOT_PROGRAMS = [value for value in STRANGE] + [
    ["do", "a"], ["skip"], ("rep", ["skip"]), ("seq", A, ["do", "b"]), ["or", A, B], ("seq", [A, B]),
    ("skip", A), ("skip", None), ("rep", A, B), ("rep",), ("rep", "a"), ("do", A),
    ("seq", A), ("seq",), ("or", A), ("or",), ("or", ("or", A), B), ("rep", ("seq", A)),
    ("if", A, B), ("Do", "a"), ("call", "a"), (A, B), (0, "a"), (True, A), (("do",), "a"),
    ("seq", A, None), ("seq", A, "b"), ("or", A, ()), ("rep", None),
    wide("seq", 61), wide("or", 61), choice("abcdefg"), deep(41),
]
