"""[28]: the texts of values made of tuples, integers and words."""

import unittest

from gridknot.errors import InvalidText
from gridknot.told import told, untold
from support import FIVE, LINKED, some_grids

SIGNS = " !\"#$%'()*+,-./0123456789:;<=>?@AZ[\\]^_`abz{|}~\n\t\x00\x7f\xa0\xb2\u0663\u0661\uff11\u00e9\u2212\U0001f600"

VALUES = (
    (), ((),), ((), ()), 0, 1, -1, 7, -7, 10, 100, 999999999999, -999999999999, "a", " ", "z", "turn rows", "a  b ",
    (0,), (0, 0), (-5,), ("a",), ("a", "b"), (1, ("a",)), ((0, 1), (), "turn rows", (-5,)), ((((),),),), (((), 1), ((2,),)),
    ("grow column", 0, 0, "up"), FIVE, LINKED, ("colours", 3, (0, 1, 2, 0, 1)), ((("move", ("turn columns",)),),),
)


def due_text(value):
    """The text in the document's words."""
    if isinstance(value, str):
        return '"' + value + '"'
    if isinstance(value, int):
        return str(value)
    if len(value) == 1:
        return "(" + due_text(value[0]) + ",)"
    return "(" + ",".join(due_text(part) for part in value) + ")"


def within(many, value):
    """The value with so many tuples about it."""
    for _ in range(many):
        value = (value,)
    return value


class Told(unittest.TestCase):
    def test_known_texts(self):
        for value, due in (
            ((), "()"), ((0,), "(0,)"), ((0, 1), "(0,1)"), (((),), "((),)"), (-12, "-12"), ("turn rows", '"turn rows"'),
            (((0, 1), (), "turn rows", (-5,)), '((0,1),(),"turn rows",(-5,))'), (("ring",), '("ring",)'), (0, "0"),
        ):
            self.assertEqual(told(value), due)
            self.assertEqual(untold(due), value)

    def test_there_and_back(self):
        for value in VALUES + tuple(grid.pair() for grid in some_grids(6, 20)):
            self.assertEqual(told(value), due_text(value))
            self.assertEqual(untold(told(value)), value)
            self.assertIs(type(untold(told(value))), type(value))
            self.assertEqual(told(untold(told(value))), told(value))

    def test_parameters_by_name_and_again(self):
        self.assertEqual(told(value=(1,)), "(1,)")
        self.assertEqual(untold(text="(1,)"), (1,))
        self.assertEqual([untold("(1,)"), told((1,))], [(1,), "(1,)"])

    def test_thirty_tuples_within_one_another(self):
        for many in (1, 2, 15, 28, 29, 30):
            for value in (within(many - 1, ()), within(many, 5), within(many, "a"), within(many - 1, (1, "b"))):
                self.assertEqual(untold(told(value)), value)

    def test_long_texts(self):
        value = tuple(((k, "ab"), -k) for k in range(40000))
        self.assertEqual(untold(told(value)), value)
        word = "ab " * 300000
        self.assertEqual(untold(told((word, word))), (word, word))


class Untold(unittest.TestCase):
    def refused(self, text):
        with self.assertRaises(InvalidText) as caught:
            untold(text)
        error = caught.exception
        self.assertIs(error.text, text)
        self.assertIs(type(error.at), int)
        self.assertTrue(0 <= error.at <= len(text))
        return error.at

    def test_wrong_texts(self):
        for text in (
            "", " ", "(", ")", ",", '"', '""', "-", "+1", "--1", "- 1", "1 ", " 1", "1.0", "1e3", "0x1", "1_0", "True",
            "None", "[]", "[1]", "{}", "()()", "() ", " ()", "( )", "(,)", "(1)", '("a")', "(())", "(1,2,)", "(1,,)",
            "(1,,2)", "(,1)", "(1, 2)", "(1 ,2)", "(1,2", "(1,", "(1", "1,2", "1,", ",1", "(1,))", "((1,)", "((1,),))",
            '"a', 'a"', "a", "'a'", '"a""b"', '("a","b)', '"A"', '"a1"', '"a-b"', '"a\nb"', '"\t"', '(,"a")', '("",)',
            "(1,)\n", "\n(1,)", "(1,\n2)", '"a" ', "(1;2)", "(1,(2,)", "(1,2))", "((),())()", '"\u00e9"', "\u0663", "\u00b2",
            "(\uff11,)", "\u22121",
        ):
            with self.subTest(text=text):
                self.refused(text)

    def test_needless_figures(self):
        for text in ("-0", "00", "01", "007", "-01", "-00", "(00,)", "(-0,)", "(1,01)", "000000000000"):
            self.refused(text)
        self.assertEqual([untold("0"), untold("(0,)"), untold("10"), untold("-10")], [0, (0,), 10, -10])

    def test_a_thirteenth_figure(self):
        for text, due in (("9" * 12, 10 ** 12 - 1), ("-" + "9" * 12, 1 - 10 ** 12), ("1" + "0" * 11, 10 ** 11)):
            self.assertEqual(untold(text), due)
            self.refused(text + "0")
            self.refused("(" + text + "0,)")
            self.assertEqual(untold("(" + text + ",)"), (due,))

    def test_thirty_one_tuples_within_one_another(self):
        for value in (within(30, ()), within(31, 5), within(30, ("a", 1)), (1, within(29, ()), within(30, 0))):
            self.refused(told(value))
        self.refused("(" * 100000)
        self.refused("(" * 31)
        self.refused("(" * 30)

    def test_one_character_changed(self):
        for value in VALUES:
            text = told(value)
            for k in range(len(text)):
                for sign in SIGNS:
                    self.same_or_refused(text[:k] + sign + text[k + 1:])

    def test_one_character_left_out_twice_or_more(self):
        for value in VALUES:
            text = told(value)
            for k in range(len(text) + 1):
                self.same_or_refused(text[:k] + text[k + 1:])
                self.same_or_refused(text[:k])
                self.same_or_refused(text[k:])
                self.same_or_refused(text[:k] + text[k:k + 1] + text[k:])
                for sign in '(),"-0a ':
                    self.same_or_refused(text[:k] + sign + text[k:])

    def same_or_refused(self, text):
        """What is read tells just this text; everything else is refused."""
        try:
            value = untold(text)
        except InvalidText as error:
            self.assertTrue(0 <= error.at <= len(text))
            self.assertNotIn(text, RIGHT)
        else:
            self.assertEqual(due_text(value), text)
            self.assertTrue(all(0 < len(word) for word in words_of(value)))
            self.assertTrue(all(set(word) <= set("abcdefghijklmnopqrstuvwxyz ") for word in words_of(value)))

    def test_long_wrong_texts(self):
        for text in ("1" * 2000000, '"' + "a" * 1999999, "(" + "1," * 900000, "((" + "()," * 600000, "-" * 2000000):
            self.refused(text)


RIGHT = {due_text(value) for value in VALUES}


def words_of(value):
    if isinstance(value, str):
        yield value
    elif isinstance(value, tuple):
        for part in value:
            yield from words_of(part)


if __name__ == "__main__":
    unittest.main()
