"""Section 5: expressions."""

from itertools import product

from tests.helpers import AT, KEPT, STRANGE_DIGITS, STRANGE_LETTERS, STRANGE_SIGNS, ProgramCase, around
from whatspeed.errors import Unnamed

# The five places in which an expression stands: what is ahead of it, and what has to follow the line.
PLACES = [("x = ", []), ("if ", ["end"]), ("while ", ["end"]), ("put line ", []), ("say ", [])]

RIGHT = [
    "1", "x", "0", "9", "10", "99", "100", "999", "count", "abcdefgh", "1 + 1", "1 - 1", "1 * 1",
    "x + y - 1 + 2 * 3 * z", "1 = 1", "1 < 1", "1 > 1", "x = y", "1 + 2 = 3 * 4", "1 * 2 < 3 - 4", "x > 1 + 1 + 1",
    "( 1 )", "( x )",
    "( ( ( ( ( ( 1 ) ) ) ) ) )", "( 1 + 2 ) * 3", "3 * ( 1 + 2 )", "( 1 ) + ( 2 )", "( 1 ) * ( 2 ) = ( 3 )",
    "( 1 = 1 )", "( 1 = 1 ) = 1", "1 = ( 1 = 1 )", "( 1 < 2 ) > ( 2 < 1 )", "( 1 = 1 ) + ( 1 < 2 ) * ( 1 > 2 )",
    "1 * ( x = 2 )", "( ( 1 ) + ( 2 ) ) * ( ( 3 ) )", "x - ( y - ( z - 1 ) )", "( x ) - 1",
]

WRONG = [
    "", " ", "1000", "1001", "9999", "00", "01", "099", "0999", "-1", "+1", "1_0", "1.5", "1" * 5000, "9" * 20000,
    "0" * 5000, "+", "-", "*", "=", "<", ">", "( )", "(", ")", ") (", "( ) + 1", "1 + ( )", "1 +", "+ 1", "- 1",
    "1 -", "* 1", "1 *", "1 =", "= 1", "1 <", "< 1", "1 >", "> 1", "1 + + 1", "1 + - 1", "1 * * 1", "1 * - 1",
    "1 = = 1", "1 == 1", "1 < = 1", "1 <= 1", "1 >= 1", "1 != 1", "1 < > 1", "1 / 1", "1 % 1", "1 ** 1", "not 1",
    "1 and 1", "1 = 1 = 1", "1 < 2 < 3", "3 > 2 > 1", "1 = 1 < 1", "1 + 1 = 1 + 1 = 1", "( 1 = 1 = 1 )",
    "( 1 < 1 > 1 ) + 1", "1 1", "x y", "1 x", "x 1", "( 1 ) ( 1 )", "( 1 ) 1", "1 ( 1 )", "x ( 1 )", "( 1", "1 )",
    "( ( 1 )", "( 1 ) )", "( 1 + )", "( + 1 )", "1 ) + ( 1", "( 1 ) + 1 )", "( 1 + ( 1 )", "(1)", "( 1)", "(1 )",
    "1+1", "1 +1", "1+ 1", "x*2", "abcdefghi", "aB", "a1", "1a", "( 1 ) * ( = )", "1 + ( 2 * )",
    "( 1 ) = ( 2 ) = ( 3 )", "x = y = z", "1 , 1", "[ 1 ]", "{ 1 }", "x .", "( 1 ) = ( )", "( ( ) )", "1 + ( 1 ) )",
    "( ( 1 ) + 1", "1 + ( 1", "1  + 1", "1 +  1", " 1", "1 ", "( 1  )", "\u00d7", *KEPT,
    *[f"1 + {word}" for word in KEPT], *STRANGE_DIGITS, *STRANGE_LETTERS, *STRANGE_SIGNS,
    *[f"1{sign}" for sign in STRANGE_SIGNS + STRANGE_DIGITS],
    *[f"x{sign}" for sign in STRANGE_SIGNS + STRANGE_LETTERS], *[f"1{sign}+ 1" for sign in STRANGE_SIGNS],
]


class Sentences:
    """All expressions of so many words, made from the words of the document's own rules."""

    def __init__(self, words):
        self.singles = [(word,) for word in words if word.isalnum()]
        self.words = words
        self.known = {}

    def of(self, kind, length):
        if length < 1:
            return set()
        if (kind, length) not in self.known:
            self.known[kind, length] = set(getattr(self, kind)(length))
        return self.known[kind, length]

    def pairs(self, left, signs, right, length):
        for sign in [sign for sign in signs if sign in self.words]:
            for at in range(1, length - 1):
                for one in self.of(left, at):
                    for other in self.of(right, length - 1 - at):
                        yield (*one, sign, *other)

    def factor(self, length):
        if length == 1:
            yield from self.singles
        if "(" in self.words:
            for inner in self.of("value", length - 2):
                yield ("(", *inner, ")")

    def product(self, length):
        yield from self.of("factor", length)
        yield from self.pairs("product", "*", "factor", length)

    def sum(self, length):
        yield from self.of("product", length)
        yield from self.pairs("sum", "+-", "product", length)

    def value(self, length):
        yield from self.of("sum", length)
        yield from self.pairs("sum", "=<>", "sum", length)


class ExpressionsTest(ProgramCase):

    def is_expression(self, text):
        for begin, rest in PLACES:
            with self.subTest(begin + text[:99]):
                self.stands(around(begin + text, *rest))
                self.stands(around("say 1", begin + text, *rest, "say 2"))

    def is_none(self, text):
        for begin, rest in PLACES:
            with self.subTest(begin + text[:99]):
                self.is_bad(AT, around(begin + text, *rest))
                self.is_bad(AT + 1, around("say 1", begin + text, *rest, "say 2"))

    def test_right_ones(self):
        for text in RIGHT:
            self.is_expression(text)

    def test_wrong_ones(self):
        for text in WRONG:
            self.is_none(text)

    def test_integers(self):
        for number in range(1000):
            self.stands(around(f"say {number}"))
        for number in (1000, 1001, 1999, 9990, 10000, 10 ** 9):
            self.is_none(str(number))
            self.is_none(f"1 + {number}")
            self.is_none(f"( {number} )")
            self.is_none(f"{number} * x")
            self.is_none(f"{number} = x")
            self.is_none(f"x < {number}")

    def test_all_short_ones(self):
        for words, longest in (("1x()+-*=<>", 4), ("1()+*=", 5), ("1()=", 7), ("1-*<>", 5)):
            sentences = Sentences(words)
            for length in range(1, longest + 1):
                right = sentences.of("value", length)
                found = {row for row in product(words, repeat=length) if self.has_form(around("say " + " ".join(row)))}
                self.assertEqual(found, right)

    def test_forty_words(self):
        # What keeps the rules of sums, products and parentheses has an odd number of words: 39 stand, 41 do not.
        for longest, longer in (
            *[(f"1 {sign} " * 19 + "x", f"1 {sign} " * 20 + "x") for sign in "+-*"],
            *[(f"1 + x {sign} " + "1 * " * 17 + "1", f"1 + x {sign} " + "1 * " * 18 + "1") for sign in "=<>"],
            ("( " + "1 + " * 18 + "1 )", "( " + "1 + " * 19 + "1 )"),
            ("( 1 ) + ( " + "1 - " * 15 + "1 ) = 1", "( 1 ) + ( " + "1 - " * 16 + "1 ) = 1"),
            ("( 1 ) + ( " + "1 - " * 14 + "1 ) = ( 1 )", "( 1 ) + ( " + "1 - " * 15 + "1 ) = ( 1 )"),
            (" * ".join(["( 1 )"] * 10), " * ".join(["( 1 )"] * 10) + " + 1"),
        ):
            self.assertEqual([len(longest.split(" ")), len(longer.split(" "))], [39, 41])
            self.is_expression(longest)
            self.is_none(longer)

    def test_the_number_of_words(self):
        for length in range(1, 60):
            text = " ".join((["x", "+"] * 30)[:length])
            if length % 2 and length <= 40:
                self.is_expression(text)
            else:
                self.is_none(text)

    def test_six_parentheses(self):
        for depth in range(1, 7):
            self.is_expression("( " * depth + "1" + " )" * depth)
            self.is_expression("1 + " + "( " * depth + "x = 2" + " )" * depth + " * 3")
        for depth in (7, 8, 9, 15, 19, 20, 21, 100, 1000, 30000):
            self.is_none("( " * depth + "1" + " )" * depth)
            self.is_none("1 + " + "( " * depth + "x = 2" + " )" * depth)

    def test_six_are_open_at_a_time(self):
        six, seven = "( " * 6 + "1" + " )" * 6, "( " * 7 + "1" + " )" * 7
        self.is_expression(f"{six} + {six}")
        self.is_expression(f"( 1 ) + {six} * ( 2 )")
        self.is_expression(" + ".join(["( 1 )"] * 10))
        self.is_none(f"1 + {seven}")
        self.is_none(f"{seven} = 1")
        self.is_none(f"( 1 ) + {seven}")
        self.is_none("( 1 + ( 1 + ( 1 + ( 1 + ( 1 + ( 1 + ( 1 ) ) ) ) ) ) )")
        self.is_expression("( 1 + ( 1 + ( 1 + ( 1 + ( 1 + ( 1 + 1 ) ) ) ) ) )")
        self.is_expression("( ( ( ( ( ( 1 ) + 1 ) + 1 ) + 1 ) + 1 ) + 1 )")
        self.is_none("( ( ( ( ( ( ( 1 ) + 1 ) + 1 ) + 1 ) + 1 ) + 1 ) + 1 )")

    def test_far_beyond_both(self):
        for text in (
            "1 + " * 50000 + "1", "( " * 50000, " )" * 50000, "( " * 50000 + "1", "1" + " )" * 50000, "1 " * 50000,
            "1 * ( " * 20000 + "1" + " )" * 20000, "x = " * 20000 + "x", "a" * 100000, "1" * 100000, "+ " * 50000,
        ):
            self.is_none(text)

    def test_unbalanced_ones(self):
        for opened in range(8):
            for ended in range(8):
                text = "( " * opened + "1" + " )" * ended
                if opened == ended < 7:
                    self.is_expression(text)
                else:
                    self.is_none(text)

    def test_variables_stand_anywhere(self):
        for text in (
            "door", "1 + door", "( door )", "door = 1", "1 = door", "2 * ( 1 - door )", "door * 1", "x < y + door",
        ):
            for begin, rest in PLACES:
                with self.subTest(begin + text):
                    self.fails(Unnamed, AT, around(begin + text, *rest))
