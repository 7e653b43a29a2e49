"""[5]: the class Stage."""

import operator
import unittest
from itertools import combinations, product
from math import gcd, prod

from keyspans.errors import BadField, MixedKeys, NoName
from keyspans.keys import Keys
from keyspans.stages import Stage
from tests.helpers import all_names, check_raises, plain_divides, plain_lane, plain_lcm, things

KEYS = Keys(("user", "shop", "city"), (("shop", "city"),))
CHAIN = Keys(("a", "b", "c"), (("a", "b"), ("b", "c")))


def numbers(stage):
    return [stage[name] for name in all_names(stage.schema)]


def written(name, m):
    return {0: (name,), 1: ()}.get(m, (f"{name}/{m}",))


def many_stages(keys, choices):
    """Stages with all these numbers, closed by hand."""
    names = all_names(keys)
    for chosen in product(*choices):
        fields = [field for name, m in zip(names, chosen) for field in written(name, m)]
        closed = [
            0 if any(chosen[at] == 0 and keys.tells(teller, name) for at, teller in enumerate(names)) else m
            for name, m in zip(names, chosen)]
        yield Stage(keys, fields), closed


class NumbersTest(unittest.TestCase):

    def test_numbers_and_the_plain_writing(self):
        for fields, held, plain in (
                ((), [1, 1, 1, 1], ()),
                (("user",), [1, 1, 1, 0], ("user",)),
                (("user/6",), [1, 1, 1, 6], ("user/6",)),
                (("user/6", "user/4"), [1, 1, 1, 12], ("user/12",)),
                (("user/6", "user/4", "user/6", "user/5"), [1, 1, 1, 60], ("user/60",)),
                (("user/6", "user"), [1, 1, 1, 0], ("user",)),
                (("user", "user/6", "user"), [1, 1, 1, 0], ("user",)),
                (("shop",), [1, 0, 0, 1], ("shop",)),
                (("city", "shop"), [1, 0, 0, 1], ("shop",)),
                (("city/5", "shop"), [1, 0, 0, 1], ("shop",)),
                (("city",), [1, 0, 1, 1], ("city",)),
                (("city", "shop/3"), [1, 0, 3, 1], ("city", "shop/3")),
                (("city/9", "shop/3"), [1, 9, 3, 1], ("city/9", "shop/3")),
                (("#",), [0, 0, 0, 0], ("#",)),
                (("user/2", "#", "shop"), [0, 0, 0, 0], ("#",)),
                (("#/2", "user"), [2, 1, 1, 0], ("#/2", "user")),
                (("#/2", "#/3", "shop/10", "shop/9"), [6, 1, 90, 1], ("#/6", "shop/90"))):
            with self.subTest(fields):
                stage = Stage(KEYS, fields)
                self.assertEqual(numbers(stage), held)
                self.assertEqual(stage.fields, plain)
                self.assertEqual(stage.text, " ".join(plain) if plain else "-")
                self.assertEqual(len(stage), len([m for m in held if m != 1]))
                self.assertIs(bool(stage), held != [1, 1, 1, 1])
                self.assertEqual(Stage(KEYS, stage.fields), stage)
                self.assertEqual(Stage.of(KEYS, stage.text), stage)
                self.assertEqual(stage.schema, KEYS)

    def test_a_whole_name_makes_all_that_it_tells_whole(self):
        self.assertEqual(numbers(Stage(CHAIN, ("a", "b/2", "c/3"))), [1, 0, 0, 0])
        self.assertEqual(Stage(CHAIN, ("a", "b", "c/3")).fields, ("a",))
        self.assertEqual(numbers(Stage(CHAIN, ("b", "a/2"))), [1, 2, 0, 0])
        self.assertEqual(numbers(Stage(CHAIN, ("a/2",))), [1, 2, 1, 1])

    def test_fields_ascend_as_texts(self):
        keys = Keys(("a", "ab", "b"))
        self.assertEqual(Stage(keys, ("b", "ab/3", "a/20", "#/9")).fields, ("#/9", "a/20", "ab/3", "b"))
        self.assertEqual(Stage(keys, ("ab", "a/2")).text, "a/2 ab")
        self.assertEqual(Stage(keys, ("ab", "a")).text, "a ab")

    def test_great_numbers_that_come_of_several_fields(self):
        stage = Stage(KEYS, ("user/999983", "user/999979", "user/1000000"))
        m = 999983 * 999979 * 10 ** 6
        self.assertEqual((stage["user"], stage.text), (m, f"user/{m}"))
        self.assertEqual(Stage(KEYS, stage.fields), stage)
        self.assertEqual(Stage.of(KEYS, stage.text), stage)
        self.assertIn("user/999979", stage)
        self.assertIn(f"user/{m}", stage)
        self.assertNotIn(f"user/{7 * m}", stage)
        self.assertEqual(stage.lane((0, (0, 0, m + 3))), (3,))

    def test_a_number_of_61_digits(self):
        primes = (999983, 999979, 999961, 999959, 999953, 999931, 999917, 999907, 999883, 999863)
        stage = Stage(KEYS, [f"user/{m}" for m in (2, *primes)])
        self.assertEqual(stage.text, f"user/{2 * prod(primes)}")
        self.assertEqual(stage["user"], 2 * prod(primes))
        self.assertEqual(Stage.of(KEYS, stage.text), stage)

    def test_numbers_of_thousands_of_digits(self):
        stage = Stage(KEYS, [f"user/{m}" for m in range(2, 12000)])
        field, = stage.fields
        self.assertGreater(len(field), 5000)
        self.assertEqual(Stage(KEYS, (field,)), stage)
        self.assertEqual(stage | Stage(KEYS, ("user/2",)), stage)
        self.assertTrue(all(stage["user"] % m == 0 for m in range(2, 12000)))

    def test_index(self):
        stage = Stage(KEYS, ("shop", "user/6"))
        self.assertEqual([stage[name] for name in ("#", "user", "city", "shop")], [1, 6, 0, 0])
        for name in ("", "x", "user/6", "##", "-", " user"):
            with self.subTest(name):
                check_raises(self, NoName, {"name": name}, operator.getitem, stage, name)

    def test_contains(self):
        stage = Stage(KEYS, ("shop", "user/12"))
        held = ("shop", "shop/2", "shop/999983", "city", "city/7", "user/2", "user/3", "user/4", "user/6", "user/12")
        missing = ("user", "user/5", "user/8", "user/24", "#", "#/2", "x", "x/2", "user/1", "user/0", "", "-", "shop/1",
                   "shop/02", "Shop", "shop user/12")
        for field in held:
            with self.subTest(field):
                self.assertIs(field in stage, True)
        for field in missing:
            with self.subTest(field):
                self.assertIs(field in stage, False)
        number = Stage(KEYS, ("#",))
        for field in ("#", "#/2", "user", "user/5", "city"):
            self.assertIs(field in number, True)
        self.assertIs("x" in number, False)
        self.assertIs("user/2" in Stage(KEYS, ()), False)
        self.assertIs("user" in Stage(KEYS, ()), False)

    def test_no_name(self):
        check_raises(self, NoName, {"name": "x"}, Stage, KEYS, ("user", "x/2", "y"))
        check_raises(self, NoName, {"name": "y"}, Stage, KEYS, ("y", "x"))
        check_raises(self, NoName, {"name": "x"}, Stage, Keys(()), ("#", "x"))

    def test_without_names(self):
        keys = Keys(())
        for fields, text, held in (((), "-", 1), (("#",), "#", 0), (("#/2",), "#/2", 2)):
            stage = Stage(keys, fields)
            self.assertEqual((stage.text, stage["#"], len(stage)), (text, held, 0 if held == 1 else 1))
        self.assertEqual(Stage(keys, ("#/2",)).lane((5, ())), (1,))


class OfTest(unittest.TestCase):

    def test_texts(self):
        for text in ("shop user/6", "  shop    user/6  ", "user/6 shop", "city user/3 user/2 shop" + " " * 900):
            with self.subTest(text):
                self.assertEqual(Stage.of(KEYS, text), Stage(KEYS, ("shop", "user/6")))
        for text in ("", " ", "      ", "-", "  -", "-   "):
            with self.subTest(text):
                self.assertEqual(Stage.of(KEYS, text), Stage(KEYS, ()))

    def test_bad_fields(self):
        for text, word in (
                ("user/1", "user/1"), ("user User x/", "User"), ("user -", "-"), ("- -", "-"), ("- user", "-"),
                ("user; shop", "user;"), ("user,shop", "user,shop"), ("user\tshop", "user\tshop"),
                ("user\nshop", "user\nshop"), ("/", "/"), ("user /2", "/2"), ("user/ 2", "user/"),
                ("--", "--"), ("2 user", "2")):
            with self.subTest(text):
                check_raises(self, BadField, {"field": word}, Stage.of, KEYS, text)

    def test_bad_field_ahead_of_no_name(self):
        check_raises(self, BadField, {"field": "user/0"}, Stage.of, KEYS, "x y/2 user user/0")
        check_raises(self, NoName, {"name": "x"}, Stage.of, KEYS, "user x y/2")


class SignsTest(unittest.TestCase):

    def test_orders_and_joins_of_many_stages(self):
        choices = ((0, 1, 2), (0, 1, 4, 6), (0, 1, 6), (1, 3))
        found = list(many_stages(KEYS, choices))
        for (one, mine), (other, yours) in product(found, found):
            within = all(plain_divides(m, number) for m, number in zip(mine, yours))
            self.assertIs(one <= other, within)
            self.assertIs(one >= other, all(plain_divides(m, number) for m, number in zip(yours, mine)))
            self.assertIs(one < other, within and mine != yours)
            self.assertIs(one == other, mine == yours)
            self.assertIs(one != other, mine != yours)
            self.assertEqual(numbers(one | other), [plain_lcm(*pair) for pair in zip(mine, yours)])
            self.assertEqual(numbers(one & other), [gcd(*pair) for pair in zip(mine, yours)])

    def test_numbers_of_many_stages(self):
        for stage, held in many_stages(CHAIN, ((0, 1, 5), (0, 1, 2), (0, 1, 3), (0, 1, 4))):
            self.assertEqual(numbers(stage), held)

    def test_zero_divides_only_zero(self):
        whole, third, none = (Stage(KEYS, fields) for fields in (("user",), ("user/3",), ()))
        self.assertTrue(none < third < whole)
        self.assertFalse(whole <= third)
        self.assertFalse(whole <= none)
        self.assertFalse(third <= none)
        self.assertTrue(whole <= whole)
        self.assertFalse(whole < whole)
        self.assertEqual((whole & third, whole | third, whole | none, whole & none), (third, whole, whole, none))

    def test_pairs_that_tell_two_stages_apart(self):
        choices = ((0, 1, 2), (0, 1, 4, 6), (0, 1, 6), (1, 3))
        found = [stage for stage, held in many_stages(KEYS, choices)]
        for one, other in product(found, found):
            pair = one ^ other
            if one == other:
                self.assertIsNone(pair)
                continue
            self.assertEqual(pair, self.plain_pair(one, other))
            self.assertNotEqual(one.same(*pair), other.same(*pair))
            first, second = pair
            self.assertFalse(first[1][1] == second[1][1] and first[1][0] != second[1][0])

    def plain_pair(self, one, other):
        if other <= one:
            one, other = other, one
        x = next(name for name in all_names(KEYS) if not plain_divides(other[name], one[name]))
        values = tuple(one[name] if name == x or (name, x) in KEYS.pairs else 0 for name in KEYS.names)
        return (0, (0, 0, 0)), (one["#"], values)

    def test_pairs_in_a_chain(self):
        self.assertEqual(
            Stage(CHAIN, ("c",)) ^ Stage(CHAIN, ("a/4", "b/6")), ((0, (0, 0, 0)), (1, (1, 0, 0))))
        self.assertEqual(
            Stage(CHAIN, ("a/4", "b/6")) ^ Stage(CHAIN, ("c",)), ((0, (0, 0, 0)), (1, (4, 6, 1))))
        self.assertEqual(Stage(CHAIN, ("#",)) ^ Stage(CHAIN, ("#/3",)), ((0, (0, 0, 0)), (3, (0, 0, 0))))
        self.assertEqual(Stage(CHAIN, ("#/4",)) ^ Stage(CHAIN, ("#/6",)), ((0, (0, 0, 0)), (4, (0, 0, 0))))
        self.assertEqual(Stage(CHAIN, ("b/2",)) ^ Stage(CHAIN, ("#/5",)), ((0, (0, 0, 0)), (1, (0, 0, 0))))
        self.assertEqual(Stage(CHAIN, ("#/5",)) ^ Stage(CHAIN, ("b/2",)), ((0, (0, 0, 0)), (5, (1, 1, 0))))

    def test_mixed_keys(self):
        one = Stage(Keys(("a", "b")), ("a",))
        for other in (Stage(Keys(("a", "b"), (("a", "b"),)), ("a",)), Stage(Keys(("a",)), ("a",)), Stage(Keys(()), ())):
            for sign in (operator.le, operator.lt, operator.ge, operator.gt, operator.or_, operator.and_, operator.xor):
                with self.subTest(sign):
                    check_raises(self, MixedKeys, {}, sign, one, other)
                    check_raises(self, MixedKeys, {}, sign, other, one)
            self.assertIs(one == other, False)
            self.assertIs(one != other, True)

    def test_equal_numbers_of_unlike_keys(self):
        one = Stage(Keys(("a", "b")), ("b",))
        other = Stage(Keys(("a", "b"), (("a", "b"),)), ("b",))
        self.assertEqual(numbers(one), numbers(other))
        self.assertIs(one == other, False)
        check_raises(self, MixedKeys, {}, operator.le, one, other)
        check_raises(self, MixedKeys, {}, operator.xor, one, other)

    def test_equal_keys_need_not_be_the_same_object(self):
        one = Stage(Keys(("a", "b")), ("a",))
        other = Stage(Keys(["b", "a", "a"]), ("a", "b"))
        self.assertTrue(one < other)
        self.assertEqual((one | other, one & other), (other, one))
        self.assertEqual(one, Stage(Keys(("b", "a")), ("a", "a/2")))

    def test_equals_nothing_else(self):
        stage = Stage(KEYS, ("user",))
        for thing in [*things(), KEYS, stage.text, stage.fields, "user", ("user",), [1, 1, 1, 0]]:
            with self.subTest(repr(thing)):
                self.assertIs(stage == thing, False)
                self.assertIs(thing == stage, False)

    def test_signs_make_no_changes(self):
        one, other = Stage(KEYS, ("user/4", "shop")), Stage(KEYS, ("user/6", "#/2"))
        for sign in (operator.le, operator.lt, operator.or_, operator.and_, operator.xor, operator.eq):
            sign(one, other)
        self.assertEqual((one.text, other.text), ("shop user/4", "#/2 user/6"))


class LaneTest(unittest.TestCase):

    def test_lane(self):
        record = (7, (1, 10, -9))
        for fields, lane in (
                ((), ()), (("#",), (7, 1, 10, -9)), (("#/4",), (3,)), (("user",), (-9,)), (("user/2",), (1,)),
                (("user/10",), (1,)), (("city",), (1,)), (("shop",), (1, 10)), (("shop/3", "city/2"), (1, 1)),
                (("user/4", "#/2", "city"), (1, 1, 3)), (("user/9",), (0,)), (("shop/20",), (10,))):
            with self.subTest(fields):
                self.assertEqual(Stage(KEYS, fields).lane(record), lane)
                self.assertIs(type(Stage(KEYS, fields).lane(record)), tuple)

    def test_lane_of_great_values(self):
        great = 10 ** 100
        self.assertEqual(Stage(KEYS, ("user",)).lane((great, (0, 0, -great))), (-great,))
        self.assertEqual(Stage(KEYS, ("#/7", "user/7")).lane((great, (0, 0, -great))), (great % 7, -great % 7))

    def test_same(self):
        records = [(0, (0, 0, 0)), (1, (0, 0, 2)), (2, (0, 1, -2)), (3, (1, 3, 5)), (6, (1, 3, 2))]
        for fields in ((), ("#",), ("#/2",), ("user",), ("user/4",), ("city",), ("shop",), ("shop/3",), ("user/3", "#/3")):
            stage = Stage(KEYS, fields)
            for one, other in combinations(records, 2):
                with self.subTest((fields, one, other)):
                    same = plain_lane(KEYS, stage, one) == plain_lane(KEYS, stage, other)
                    self.assertIs(stage.same(one, other), same)
                    self.assertIs(stage.same(one, one), True)
        self.assertFalse(Stage(KEYS, ("#",)).same((0, (0, 0, 0)), (1, (0, 0, 0))))
        self.assertTrue(Stage(KEYS, ("#/2", "city")).same((0, (5, 0, 0)), (4, (5, 1, 0))))


if __name__ == "__main__":
    unittest.main()
