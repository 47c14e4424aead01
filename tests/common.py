"""What several tests share: faces written as texts, and things of wrong kinds."""

import farpanes.errors as errors

# Kinds that are neither whole numbers, texts nor tuples, and truths, which Python counts among the ints.
OTHER_KINDS = [None, True, False, [], [1], {}, {1: 2}, {1}, b"", b"a", object(), len, int, range(3)]
NO_NUMBERS = OTHER_KINDS + ["", "1", (), (1,)]
NO_TEXTS = OTHER_KINDS + [0, 1, -1, (), ("a",), ["a"]]
NO_TUPLES = OTHER_KINDS + [0, 1, "", "abc"]

# No signs, though most of them are one character: beside the range, in it but barred, and not just one.
NO_SIGNS = ["%", "\n", "\t", "\x00", "\x1f", "\x7f", "\x80", "\xe9", "\u2028", "\ud800", "", "ab", "  ", "a\n", "a%"]

SIGNS = "".join(chr(code) for code in range(32, 127) if code != 37)


def rows_of(*texts, ink=0):
    """Rows with the signs of the texts; blanks have ink 0 then, all else the ink told."""
    return tuple(tuple((sign, 0 if sign == " " else ink) for sign in text) for text in texts)


def face_of(*texts, row=0, column=0, ink=0):
    """A face with the signs of the texts, as rows_of makes its rows."""
    return rows_of(*texts, ink=ink), row, column


# Things that are no face, of any size.
NO_FACES = NO_TUPLES + [
    (), (rows_of("ab"),), (rows_of("ab"), 0), (rows_of("ab"), 0, 0, 0), [rows_of("ab"), 0, 0], rows_of("ab", "cd", "ef"),
    (rows_of("ab"), 1, 0), (rows_of("ab"), 0, 2), (rows_of("ab"), -1, 0), (rows_of("ab"), 0, True),
    (rows_of("ab"), False, 0), (rows_of("ab", "a"), 0, 0), (rows_of("a%"), 0, 0), (rows_of("a\n"), 0, 0), ((), 0, 0),
    (((),), 0, 0), (list(rows_of("ab")), 0, 0), (rows_of("ab", ink=8), 0, 0), (rows_of("ab", ink=True), 0, 0),
    (rows_of("a" * 21), 0, 0), (rows_of(*["a"] * 11), 0, 0), ((["ab"],), 0, 0), (("ab",), 0, 0),
]


def refused(test, kind, call, *told):
    """Fail unless the call raises an error of just that class, one right under ScreenError."""
    try:
        call(*told)
    except ValueError as error:
        test.assertIs(type(error), kind, told)
        test.assertIsInstance(error, errors.ScreenError)
    else:
        test.fail(f"{told!r} was not refused")
