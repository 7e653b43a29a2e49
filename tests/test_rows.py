"""[6]: is_row, row_of and value."""

import unittest
from itertools import product

from keyspans.errors import BadField, Doubled, NoName, Unlawful
from keyspans.keys import Keys
from keyspans.lanes import is_row, row_of, value
from tests.helpers import check_raises, things

KEYS = Keys(("city", "shop", "user"), (("shop", "city"),))
CHAIN = Keys(("a", "b", "c"), (("a", "b"), ("b", "c")))
GREAT = 10 ** 100


class IsRowTest(unittest.TestCase):

    def test_rows(self):
        for row in (
                (), ((0, (0, 0, 0)),), ((GREAT, (-GREAT, GREAT, 0)),), ((1, (1, 10, 4)), (0, (1, 10, 4))),
                ((5, (1, 10, 4)), (2, (1, 11, -4)), (3, (2, 20, 4))), ((10 * GREAT, (0, 0, -10 * GREAT)),)):
            with self.subTest(row):
                self.assertIs(is_row(KEYS, row), True)
        self.assertIs(is_row(Keys(()), ((0, ()), (1, ()))), True)
        self.assertIs(is_row(KEYS, tuple((at, (at, at, at)) for at in range(40))), True)

    def test_no_rows(self):
        for thing in (
                [], [(0, (0, 0, 0))], ([0, (0, 0, 0)],), ((0, [0, 0, 0]),), ((0, (0, 0)),), ((0, (0, 0, 0, 0)),),
                ((0, ()),), ((-1, (0, 0, 0)),), ((True, (0, 0, 0)),), ((False, (0, 0, 0)),), ((0, (0, 0, True)),),
                ((0, (False, 0, 0)),), ((0, (0, None, 0)),), ((0, (0, "0", 0)),), (("0", (0, 0, 0)),), ((None, (0, 0, 0)),),
                ((0, (0, 0, 0), 1),), ((0,),), ((),), (0, (0, 0, 0)), ((0, ((0, 0, 0),)),), ((0, "abc"),), ("ab",),
                ((0, (0, 0, 0)), (0, (0, 0, 0))), ((0, (0, 0, 0)), (1, (1, 1, 0)), (0, (1, 1, 1))),
                ((0, (1, 10, 0)), (1, (2, 10, 0))), ((0, (1, 10, 0)), (1, (3, 30, 0)), (2, (3, 10, 5))),
                (((0, (0, 0, 0)),),), ((0, (0, 0, (0,))),), (((0,), (0, 0, 0)),)):
            with self.subTest(repr(thing)):
                self.assertIs(is_row(KEYS, thing), False)

    def test_things(self):
        for thing in things():
            with self.subTest(repr(thing)):
                self.assertIs(is_row(KEYS, thing), False)
                self.assertIs(is_row(KEYS, (thing,)), False)
                self.assertIs(is_row(KEYS, (thing, (0, 0, 0))), False)
                self.assertIs(is_row(KEYS, ((thing, (-1, 0, 0)),)), thing in (0, 1, 12, GREAT) and type(thing) is int)
                self.assertIs(is_row(KEYS, ((0, (0, 0, thing)),)), type(thing) is int)
                self.assertIs(is_row(KEYS, ((0, thing),)), False)

    def test_lawful_as_the_keys_tell(self):
        row = ((0, (1, 2, 3)), (1, (1, 2, 4)))
        self.assertIs(is_row(Keys(("a", "b", "c")), row), True)
        self.assertIs(is_row(Keys(("a", "b", "c"), (("a", "b"),)), row), True)
        self.assertIs(is_row(Keys(("a", "b", "c"), (("a", "c"),)), row), False)
        self.assertIs(is_row(Keys(("a", "b", "c"), (("c", "a"),)), row), True)
        self.assertIs(is_row(CHAIN, row), False)


class RowOfTest(unittest.TestCase):

    def test_the_row(self):
        records = ((5, (1, 10, 4)), (2, (1, 11, -4)), (3, (2, 20, 4)))
        self.assertEqual(row_of(KEYS, records), records)
        self.assertEqual(row_of(KEYS, ()), ())
        self.assertEqual(row_of(KEYS, ((GREAT, (GREAT, -GREAT, 0)),)), ((GREAT, (GREAT, -GREAT, 0)),))

    def test_lists_become_tuples(self):
        row = row_of(KEYS, [[5, [1, 10, 4]], (2, [1, 11, -4]), [3, (2, 20, 4)]])
        self.assertEqual(row, ((5, (1, 10, 4)), (2, (1, 11, -4)), (3, (2, 20, 4))))
        self.assertTrue(is_row(KEYS, row))

    def test_doubled(self):
        one, two, three = (1, 10, 0), (2, 20, 0), (3, 30, 0)
        for numbers, doubled in (((1, 1), 1), ((0, 1, 0), 0), ((3, 1, 2, 1, 3), 1), ((4, 2, 2, 4), 2), ((7, 8, 9, 8), 8)):
            with self.subTest(numbers):
                check_raises(self, Doubled, {"number": doubled}, row_of, KEYS, tuple((n, one) for n in numbers))
        check_raises(self, Doubled, {"number": 5}, row_of, KEYS, ((5, one), (6, two), (5, three)))

    def test_doubled_ahead_of_unlawful(self):
        check_raises(
            self, Doubled, {"number": 1}, row_of, KEYS, ((1, (1, 10, 0)), (2, (2, 10, 0)), (1, (1, 10, 0))))

    def test_unlawful(self):
        check_raises(
            self, Unlawful, {"first": 4, "second": 2, "name": "shop"},
            row_of, KEYS, ((9, (3, 30, 0)), (4, (1, 10, 0)), (5, (1, 10, 0)), (2, (2, 10, 0)), (1, (4, 30, 0))))
        check_raises(
            self, Unlawful, {"first": 0, "second": 1, "name": "a"}, row_of, CHAIN, ((0, (1, 1, 1)), (1, (1, 1, 2))))
        check_raises(
            self, Unlawful, {"first": 0, "second": 1, "name": "b"}, row_of, CHAIN, ((0, (1, 1, 1)), (1, (2, 1, 2))))
        check_raises(
            self, Unlawful, {"first": 0, "second": 1, "name": "a"}, row_of, CHAIN, ((0, (1, 1, 1)), (1, (1, 2, 1))))

    def test_unlawful_of_all_small_tuples(self):
        values = list(product((0, 1), repeat=3))
        for chosen in product(values, repeat=3):
            records = tuple((number, worths) for number, worths in zip((6, 0, 3), chosen))
            clashes = [
                (first[0], second[0], name) for at, second in enumerate(records) for first in records[:at]
                for name in CHAIN.names for told in CHAIN.told(name)
                if self.alike(first, second, name) and not self.alike(first, second, told)]
            with self.subTest(records):
                self.assertIs(is_row(CHAIN, records), not clashes)
                if clashes:
                    held = dict(zip(("first", "second", "name"), clashes[0]))
                    check_raises(self, Unlawful, held, row_of, CHAIN, records)
                else:
                    self.assertEqual(row_of(CHAIN, records), records)

    def alike(self, one, other, name):
        at = CHAIN.names.index(name)
        return one[1][at] == other[1][at]


class ValueTest(unittest.TestCase):

    def test_values(self):
        record = (17, (1, 10, -9))
        for field, shown in (
                ("#", 17), ("#/5", 2), ("#/17", 0), ("#/18", 17), ("city", 1), ("shop", 10), ("user", -9),
                ("user/2", 1), ("user/6", 3), ("user/9", 0), ("user/10", 1), ("shop/10", 0), ("shop/3", 1)):
            with self.subTest(field):
                self.assertEqual(value(KEYS, record, field), shown)
        self.assertEqual(value(KEYS, (0, (0, GREAT, -GREAT)), "user"), -GREAT)
        self.assertEqual(value(KEYS, (0, (0, GREAT, -GREAT)), "user/999983"), -GREAT % 999983)

    def test_errors(self):
        record = (17, (1, 10, -9))
        for text in ("", "-", "user/1", "x/0", "User", "user shop", "/2"):
            with self.subTest(text):
                check_raises(self, BadField, {"field": text}, value, KEYS, record, text)
        check_raises(self, NoName, {"name": "x"}, value, KEYS, record, "x")
        check_raises(self, NoName, {"name": "x"}, value, KEYS, record, "x/2")
        check_raises(self, NoName, {"name": "user"}, value, Keys(()), (17, ()), "user")
        self.assertEqual(value(Keys(()), (17, ()), "#/4"), 1)


if __name__ == "__main__":
    unittest.main()
