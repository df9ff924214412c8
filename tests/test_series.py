"""[19]: series, their sums and products, their values and texts."""

import unittest
from fractions import Fraction
from itertools import product

from gridknot.errors import Undefined
from gridknot.grids import Grid
from gridknot.series import is_series, series_at, series_plus, series_text, series_times
from support import BARRED, LEAST, as_bools, as_lists, is_tuple_throughout, of_other_length, spoiled

SERIES = (
    (),
    ((0, 1),),
    ((0, -1),),
    ((0, 7),),
    ((1, 1),),
    ((-1, 1),),
    ((-3, 2),),
    ((2, -5),),
    ((0, 1), (1, -1)),
    ((0, -1), (1, 1)),
    ((-2, -1), (2, -1)),
    ((-2, -1), (0, 3), (1, 2)),
    ((-1000, 4), (-999, -4), (0, 12), (1000, 1)),
    ((3, 6), (5, -9), (8, 15)),
    ((-8, 1), (-5, -2), (-4, 3)),
    ((-7, 123456789012), (7, -123456789012)),
)


def as_dict(a):
    return dict(a)


def due_series(sums):
    return tuple(sorted((e, k) for e, k in sums.items() if k != 0))


def due_plus(a, b):
    exponents = set(dict(a)) | set(dict(b))
    return due_series({e: dict(a).get(e, 0) + dict(b).get(e, 0) for e in exponents})


def due_times(a, b):
    exponents = {e + f for e, _ in a for f, _ in b}
    return due_series({g: sum(k * m for e, k in a for f, m in b if e + f == g) for g in exponents})


def due_at(a, top, bottom):
    value = sum((k * Fraction(top, bottom) ** e for e, k in a), Fraction(0))
    return (value.numerator, value.denominator)


class IsSeries(unittest.TestCase):
    def test_series(self):
        for a in SERIES:
            self.assertIs(is_series(a), True)
            self.assertIs(is_series(value=a), True)

    def test_small_pairs(self):
        for e, k, f, m in product((-1, 0, 1), repeat=4):
            self.assertIs(is_series(((e, k),)), k != 0)
            self.assertIs(is_series(((e, k), (f, m))), k != 0 and m != 0 and e < f)

    def test_exponents_rise_throughout(self):
        for exponents in product((-1, 0, 2), repeat=3):
            value = tuple((e, 1) for e in exponents)
            self.assertIs(is_series(value), exponents == (-1, 0, 2))

    def test_what_is_nearly_a_series(self):
        for value in (
            ((1, 0),), ((0, 1), (1, 0)), ((0, 1), (0, 1)), ((1, 1), (0, 1)), ((0, 1), (0, -1)),
            (0, 1), ((0,),), ((0, 1, 2),), ((),), (((0, 1),),), ((0, 1), 2), (0,), ((0, 1), ()),
            (("0", 1),), ((0, "1"),), ((0, ()),), (((), 1),), (((0,), 1),), ((0, (1,)),), ("01",), ("", ), "t", "", "()",
            [(0, 1)], ([0, 1],), [[0, 1]], [], {}, (None,), ((None, 1),), ((0, None),),
            ((False, 1),), ((0, True),), ((True, 1),), ((0, 1), (True, 2)), ((False, True),),
            True, False, None, 0, 1, -1, Grid(*LEAST), (Grid(*LEAST),), ((0, Grid(*LEAST)),), ((Grid(*LEAST), 1),),
        ):
            with self.subTest(value=value):
                self.assertIs(is_series(value), False)

    def test_with_one_part_changed(self):
        a = ((-2, -1), (0, 1), (1, 2))
        for wrong in list(spoiled(a)) + list(as_lists(a)) + list(as_bools(a)):
            self.assertIs(is_series(wrong), False)
        for wrong in of_other_length(a):
            # A term left out is another series.
            right = len(wrong) == 2 and all(len(term) == 2 for term in wrong)
            self.assertIs(is_series(wrong), right)
        for value in BARRED:
            self.assertIs(is_series(a + (value,)), False)

    def test_deep_values(self):
        deep = ()
        for _ in range(29):
            deep = (deep,)
        self.assertIs(is_series(deep), False)
        self.assertIs(is_series(((0, deep),)), False)


class SumsAndProducts(unittest.TestCase):
    def test_known_sums(self):
        self.assertEqual(series_plus(((0, 1),), ((0, -1), (2, 3))), ((2, 3),))
        self.assertEqual(series_plus(((0, 1),), ((0, -1),)), ())
        self.assertEqual(series_plus((), ()), ())
        self.assertEqual(series_plus(((2, 1),), ((-2, 1),)), ((-2, 1), (2, 1)))

    def test_known_products(self):
        self.assertEqual(series_times(((0, 1), (1, 1)), ((0, 1), (1, -1))), ((0, 1), (2, -1)))
        self.assertEqual(series_times((), ((0, 1),)), ())
        self.assertEqual(series_times(((0, 1),), ()), ())
        self.assertEqual(series_times(((-3, 2),), ((3, -2),)), ((0, -4),))
        self.assertEqual(
            series_times(((-2, -1), (2, -1)), ((-2, -1), (2, -1))), ((-4, 1), (0, 2), (4, 1))
        )

    def test_all_two(self):
        for a, b in product(SERIES, SERIES):
            for found, due in ((series_plus(a, b), due_plus(a, b)), (series_times(a, b), due_times(a, b))):
                self.assertEqual(found, due)
                self.assertTrue(is_tuple_throughout(found))
                self.assertIs(is_series(found), True)
            self.assertEqual(series_plus(a, b), series_plus(b=b, a=a))
            self.assertEqual(series_times(a, b), series_times(b=b, a=a))
            self.assertEqual(series_times(a, b), series_times(b, a))
            self.assertEqual(series_plus(a, b), series_plus(b, a))

    def test_a_series_less_itself_and_times_one(self):
        for a in SERIES:
            self.assertEqual(series_plus(a, series_times(a, ((0, -1),))), ())
            self.assertEqual(series_plus(a, ()), a)
            self.assertEqual(series_times(a, ((0, 1),)), a)


class Values(unittest.TestCase):
    def test_known_values(self):
        self.assertEqual(series_at(((0, 1), (1, 2)), 1, 2), (2, 1))
        self.assertEqual(series_at(((-1, 1),), 2, 3), (3, 2))
        self.assertEqual(series_at(((-1, 1),), -2, 3), (-3, 2))
        self.assertEqual(series_at(((-1, 1),), 2, -3), (-3, 2))
        self.assertEqual(series_at(((1, 1),), -4, -6), (2, 3))
        self.assertEqual(series_at((), 5, 7), (0, 1))
        self.assertEqual(series_at((), -5, -7), (0, 1))
        self.assertEqual(series_at(((0, 1), (1, -1)), 1, 1), (0, 1))
        self.assertEqual(series_at(((0, 1), (1, -2), (2, 1)), 3, 3), (0, 1))
        self.assertEqual(series_at(((-2, 3), (3, -1)), 2, 1), (-29, 4))
        self.assertEqual(series_at(((0, 6),), 999, -7), (6, 1))

    def test_all_at_small_fractions(self):
        for a in SERIES:
            for top, bottom in product((-6, -4, -1, 1, 2, 3, 9), (-8, -3, -1, 1, 2, 6)):
                found = series_at(a, top, bottom)
                self.assertEqual(found, due_at(a, top, bottom))
                self.assertTrue(is_tuple_throughout(found))
                self.assertGreater(found[1], 0)

    def test_great_numbers(self):
        for top, bottom in ((10 ** 11 + 3, -10 ** 11 + 9), (999999999999, 2), (-3, 999999999998)):
            for a in SERIES:
                self.assertEqual(series_at(a, top, bottom), due_at(a, top, bottom))
        long = tuple((e, e * e + 1) for e in range(-1000, 1001))
        self.assertEqual(series_at(long, -1, 1), due_at(long, -1, 1))
        self.assertEqual(series_at(long, 3, 2), due_at(long, 3, 2))

    def test_no_value_at_nothing_and_by_nothing(self):
        for a in SERIES:
            for top, bottom in ((0, 1), (1, 0), (0, 0), (0, -3), (-3, 0)):
                with self.assertRaises(Undefined) as caught:
                    series_at(a, top, bottom)
                self.assertEqual(caught.exception.what, "value")

    def test_by_name(self):
        self.assertEqual(series_at(bottom=2, top=1, a=((0, 1), (1, 2))), (2, 1))


class Texts(unittest.TestCase):
    def test_known_texts(self):
        for a, due in (
            ((), "0"),
            (((0, 1),), "1"),
            (((0, -1),), "-1"),
            (((0, 12),), "12"),
            (((1, 1),), "t"),
            (((1, -1),), "-t"),
            (((1, 2),), "2*t"),
            (((1, -2),), "-2*t"),
            (((2, 1),), "t^2"),
            (((2, -1),), "-t^2"),
            (((10, 3),), "3*t^10"),
            (((-1, 1),), "t^-1"),
            (((-1, -1),), "-t^-1"),
            (((-12, -5),), "-5*t^-12"),
            (((-2, -1), (0, 3), (1, 2)), "-t^-2+3+2*t"),
            (((0, 1), (1, -1), (2, 1)), "1-t+t^2"),
            (((0, -1), (1, 1)), "-1+t"),
            (((-1, 1), (0, 1), (1, 1)), "t^-1+1+t"),
            (((-1, 10), (0, -10), (1, -11), (3, 1)), "10*t^-1-10-11*t+t^3"),
            (((-1000, 123456789012), (1000, -1)), "123456789012*t^-1000-t^1000"),
        ):
            self.assertEqual(series_text(a, "t"), due)
            self.assertEqual(series_text(a, "A"), due.replace("t", "A"))
            self.assertEqual(series_text(name="t", a=a), due)

    def test_names_of_more_letters(self):
        self.assertEqual(series_text(((0, 1), (1, 1), (2, 3)), "ab"), "1+ab+3*ab^2")

    def test_a_text_tells_its_series(self):
        texts = {series_text(a, "t") for a in SERIES}
        self.assertEqual(len(texts), len(SERIES))


class Basics(unittest.TestCase):
    def test_nothing_changes_and_the_same_is_told_again(self):
        a, b = ((-2, -1), (0, 3), (1, 2)), ((0, 1), (1, -1))
        asked = [
            lambda a, b: series_plus(a, b),
            lambda a, b: series_times(a, b),
            lambda a, b: series_at(a, 2, 3),
            lambda a, b: series_text(a, "t"),
        ]
        first = [ask(a, b) for ask in asked]
        between = [ask(b, a) for ask in asked]
        self.assertEqual([ask(a, b) for ask in asked], first)
        self.assertEqual([ask(b, a) for ask in asked], between)
        self.assertEqual((a, b), (((-2, -1), (0, 3), (1, 2)), ((0, 1), (1, -1))))


if __name__ == "__main__":
    unittest.main()
