"""[4]: FIELDs, PARTs and Keys."""

import unittest
from itertools import product
from math import prod

from keyspans.errors import BadField, BadLine, NoName, Ringed
from keyspans.keys import Keys, field_of, is_field, is_part, parts_of
from keyspans.stages import Stage
from tests.helpers import check_raises, things

FIELDS = {
    "a": ("a", 0), "z": ("z", 0), "user": ("user", 0), "abcdefgh": ("abcdefgh", 0), "#": ("#", 0), "#/2": ("#", 2),
    "a/2": ("a", 2), "a/9": ("a", 9), "a/10": ("a", 10), "abcdefgh/1000000": ("abcdefgh", 10 ** 6),
    "tells": ("tells", 0), "tells/11": ("tells", 11), "#/123456789012345": ("#", 123456789012345),
}
NO_FIELDS = (
    "", " ", "-", "/", "/2", "##", "#a", "a#", "A", "user1", "a b", "a_b", "abcdefghi", "abcdefghi/2", "a/", "a/0", "a/1",
    "a/00", "a/02", "a/01", "a/-2", "a/+2", "a/ 2", "a/2 ", " a/2", "a/2/3", "a//2", "a/b", "a/2b", "a/1_0", "a/2.0",
    "a/x2", "#/", "#/1", "#/0", "a/\u0663", "a/\u00b2", "\u00e9", "a\n", "a/2\n", "\n", "a\tb", "2", "a-z", "`", "{",
)


def plain_powers(m):
    """The powers of primes above 1 that divide m."""
    return [q for q in range(2, m + 1) if m % q == 0 and len(plain_primes(q)) == 1]


def plain_primes(m):
    return [p for p in range(2, m + 1) if m % p == 0 and all(p % d for d in range(2, p))]


class FieldsTest(unittest.TestCase):

    def test_is_field(self):
        for text in FIELDS:
            with self.subTest(text):
                self.assertIs(is_field(text), True)
        for thing in [*NO_FIELDS, *things()]:
            with self.subTest(repr(thing)):
                self.assertIs(is_field(thing), False)

    def test_is_field_has_no_bound(self):
        self.assertIs(is_field("a/1" + "0" * 6000), True)
        self.assertIs(is_field("a/0" + "1" * 6000), False)
        self.assertIs(is_field("a" * 6000), False)

    def test_field_of(self):
        for text, pair in FIELDS.items():
            with self.subTest(text):
                self.assertEqual(field_of(text), pair)
                self.assertIs(type(field_of(text)), tuple)
        for text in NO_FIELDS:
            with self.subTest(text):
                check_raises(self, BadField, {"field": text}, field_of, text)

    def test_is_part(self):
        for text in ("a", "#", "abcdefgh", "a/2", "a/3", "a/4", "a/5", "a/7", "a/8", "a/9", "#/16", "a/524288",
                     "a/999983", "a/994009", "a/531441", "a/1009", "a/961", "a/997"):
            with self.subTest(text):
                self.assertIs(is_part(text), True)
        for text in ("a/6", "a/10", "a/12", "#/1000", "a/1000000", "a/988027", "a/999982", "a/999998", "a/994008"):
            with self.subTest(text):
                self.assertIs(is_part(text), False)
        for thing in [*NO_FIELDS, *things()]:
            with self.subTest(repr(thing)):
                self.assertIs(is_part(thing), False)

    def test_is_part_and_parts_of_for_all_small_numbers(self):
        for m in range(2, 200):
            powers = plain_powers(m)
            with self.subTest(m):
                self.assertIs(is_part(f"#/{m}"), m in powers)
                self.assertEqual(parts_of(f"user/{m}"), tuple(sorted(f"user/{power}" for power in powers)))

    def test_parts_of(self):
        self.assertEqual(parts_of("user"), ("user",))
        self.assertEqual(parts_of("#"), ("#",))
        self.assertEqual(parts_of("#/2"), ("#/2",))
        # A set ascends as its texts do, not as their numbers.
        self.assertEqual(parts_of("a/48"), ("a/16", "a/2", "a/3", "a/4", "a/8"))
        self.assertEqual(parts_of("a/999983"), ("a/999983",))
        self.assertEqual(
            parts_of("a/1000000"),
            ("a/125", "a/15625", "a/16", "a/2", "a/25", "a/3125", "a/32", "a/4", "a/5", "a/625", "a/64", "a/8"))
        for text in NO_FIELDS:
            with self.subTest(text):
                check_raises(self, BadField, {"field": text}, parts_of, text)

    def test_parts_of_numbers_that_come_of_several_fields(self):
        field, = Stage(Keys(("a",)), ("a/999983", "a/999979", "a/8")).fields
        self.assertEqual(field, f"a/{999983 * 999979 * 8}")
        self.assertEqual(parts_of(field), ("a/2", "a/4", "a/8", "a/999979", "a/999983"))
        self.assertIs(is_part(field), False)
        self.assertIs(is_part(f"a/{1009 * 1013}"), False)
        self.assertIs(is_part(f"a/{999979 * 999983}"), False)
        for primes in ((1009, 1013), (1009, 999983), (1009, 1013, 1019, 1021), (2, 3, 1009, 500009, 999979, 999983)):
            self.assertEqual(parts_of(f"a/{prod(primes)}"), tuple(sorted(f"a/{prime}" for prime in primes)))

    def test_parts_of_numbers_somewhat_beyond_the_bound(self):
        for text in ("a/1000003", "a/1018081", "a/1062961", "a/1999993", f"a/{1000003 * 1000033}", f"a/{1000003 ** 2}"):
            m = int(text[2:])
            primes = [prime for prime in (1009, 1031, 1000003, 1000033, 1999993) if m % prime == 0]
            self.assertEqual(parts_of(text), tuple(sorted({f"a/{prime}" for prime in primes} | ({text} if len(primes) == 1 else set()))))


class KeysTest(unittest.TestCase):

    def test_names_mentioned_twice(self):
        keys = Keys(("user", "city", "user", "shop", "city"))
        self.assertEqual(keys.names, ("city", "shop", "user"))
        self.assertEqual(len(keys), 3)
        self.assertEqual(keys, Keys(("city", "shop", "user")))
        twice = Keys(("a", "b", "a"), (("a", "b"), ("a", "b")))
        self.assertEqual((twice.names, twice.pairs), (("a", "b"), (("a", "b"),)))

    def test_without_names(self):
        for keys in (Keys(()), Keys((), ()), Keys.of(""), Keys.of("  \n\n ")):
            self.assertEqual((keys.names, keys.pairs, keys.text, len(keys)), ((), (), "", 0))
            self.assertEqual(keys.told("#"), ())
            self.assertEqual(keys, Keys(()))
            self.assertNotIn("#", keys)

    def test_what_follows(self):
        keys = Keys(("d", "c", "b", "a"), (("d", "c"), ("c", "b"), ("b", "a")))
        self.assertEqual(keys.pairs, (("b", "a"), ("c", "a"), ("c", "b"), ("d", "a"), ("d", "b"), ("d", "c")))
        self.assertEqual(
            keys.text, "a\nb\nc\nd\nb tells a\nc tells a\nc tells b\nd tells a\nd tells b\nd tells c")
        self.assertEqual([keys.told(name) for name in keys.names], [(), ("a",), ("a", "b"), ("a", "b", "c")])
        self.assertTrue(keys.tells("d", "a"))
        self.assertFalse(keys.tells("a", "d"))

    def test_five_names_in_a_chain_in_any_order(self):
        chain = (("c", "e"), ("e", "a"), ("a", "d"), ("d", "b"))
        keys = Keys(("a", "b", "c", "d", "e"), chain)
        self.assertEqual(keys.told("c"), ("a", "b", "d", "e"))
        self.assertEqual(len(keys.pairs), 10)
        self.assertEqual(keys, Keys(("a", "b", "c", "d", "e"), chain[::-1]))

    def test_the_number_of_a_record_as_a_name(self):
        keys = Keys(("b", "a"))
        self.assertEqual(keys.told("#"), ("a", "b"))
        self.assertIs(keys.tells("#", "a"), True)
        self.assertIs(keys.tells("a", "#"), False)
        self.assertIs(keys.tells("#", "#"), False)
        self.assertNotIn("#", keys)
        self.assertNotIn("#", keys.names)

    def test_tells_and_told_of_no_names(self):
        keys = Keys(("a", "b"), (("a", "b"),))
        check_raises(self, NoName, {"name": "x"}, keys.tells, "x", "y")
        check_raises(self, NoName, {"name": "y"}, keys.tells, "a", "y")
        check_raises(self, NoName, {"name": "x"}, keys.tells, "x", "a")
        check_raises(self, NoName, {"name": "y"}, keys.tells, "#", "y")
        check_raises(self, NoName, {"name": ""}, keys.told, "")
        check_raises(self, NoName, {"name": "a/2"}, keys.told, "a/2")

    def test_contains(self):
        keys = Keys(("a", "b"))
        for thing, is_in in (("a", True), ("b", True), ("c", False), ("#", False), ("", False), ("a/2", False), ("ab", False)):
            with self.subTest(thing):
                self.assertIs(thing in keys, is_in)

    def test_no_name(self):
        check_raises(self, NoName, {"name": "x"}, Keys, ("a",), (("x", "y"),))
        check_raises(self, NoName, {"name": "y"}, Keys, ("a",), (("a", "y"), ("x", "a")))
        check_raises(self, NoName, {"name": "x"}, Keys, ("a",), (("a", "a"), ("x", "y")))
        check_raises(self, NoName, {"name": "#"}, Keys, ("a",), (("#", "a"),))
        check_raises(self, NoName, {"name": "a"}, Keys, (), (("a", "b"),))

    def test_ringed(self):
        check_raises(self, Ringed, {"ring": ("a",)}, Keys, ("a",), (("a", "a"),))
        check_raises(
            self, Ringed, {"ring": ("b", "c", "d", "e")}, Keys, ("a", "b", "c", "d", "e"),
            (("e", "d"), ("a", "b"), ("d", "e"), ("c", "b"), ("b", "c")))
        check_raises(
            self, Ringed, {"ring": ("b", "c", "d")}, Keys, ("a", "b", "c", "d", "e"),
            (("a", "b"), ("b", "c"), ("c", "d"), ("d", "b"), ("d", "e")))

    def test_all_tellings_among_three_names(self):
        names = ("a", "b", "c")
        possible = list(product(names, names))
        for chosen in product((False, True), repeat=len(possible)):
            tells = tuple(pair for pair, taken in zip(possible, chosen) if taken)
            follows = set(tells)
            for _ in names:
                follows |= {(one, other) for one, left in follows for right, other in follows if left == right}
            ring = tuple(name for name in names if (name, name) in follows)
            with self.subTest(tells):
                if ring:
                    check_raises(self, Ringed, {"ring": ring}, Keys, names, tells)
                else:
                    keys = Keys(names, tells)
                    self.assertEqual(keys.pairs, tuple(sorted(follows)))
                    self.assertEqual(
                        {pair for pair in possible if keys.tells(*pair)}, follows)
                    self.assertEqual(Keys.of(keys.text), keys)

    def test_equal(self):
        keys = Keys(("a", "b", "c"), (("a", "b"), ("b", "c")))
        self.assertTrue(keys == Keys(("c", "b", "a"), (("b", "c"), ("a", "c"), ("a", "b"))))
        self.assertFalse(keys != Keys(("c", "b", "a"), (("b", "c"), ("a", "b"))))
        for other in (Keys(("a", "b", "c")), Keys(("a", "b", "c"), (("a", "b"),)), Keys(()), Keys(("a", "b")),
                      Keys(("a", "b", "d"), (("a", "b"), ("b", "d")))):
            self.assertFalse(keys == other)
            self.assertTrue(keys != other)
        for thing in [*things(), keys.names, list(keys.names), keys.text, Stage(keys, ())]:
            with self.subTest(repr(thing)):
                self.assertIs(keys == thing, False)
                self.assertIs(thing == keys, False)


class KeysOfTest(unittest.TestCase):

    def test_blanks_and_lines_without_words(self):
        keys = Keys.of("\n   \n  shop    tells   city   \nuser\n\n  user \n ")
        self.assertEqual(keys, Keys(("city", "shop", "user"), (("shop", "city"),)))

    def test_names_only_in_tellings(self):
        keys = Keys.of("a tells b\nb tells c")
        self.assertEqual(keys.text, "a\nb\nc\na tells b\na tells c\nb tells c")

    def test_tells_as_a_name(self):
        self.assertEqual(Keys.of("tells").names, ("tells",))
        self.assertEqual(Keys.of("tells tells a\nb tells tells").pairs, (("b", "a"), ("b", "tells"), ("tells", "a")))
        check_raises(self, Ringed, {"ring": ("tells",)}, Keys.of, "tells tells tells")

    def test_bad_lines(self):
        for line in ("#", "a/2", "A", "abcdefghi", "-", "a b", "a tells", "tells a", "a tells b c", "a told b",
                     "a tells #", "# tells a", "a tells b tells c", "a tellsb", "a\ttells\tb", "a\r", "a tells B",
                     "a1 tells b", "a,b"):
            with self.subTest(line):
                check_raises(self, BadLine, {"number": 0}, Keys.of, line)
                check_raises(self, BadLine, {"number": 3}, Keys.of, "\na\n   \n" + line + "\n" + line)

    def test_bad_line_ahead_of_ringed(self):
        check_raises(self, BadLine, {"number": 2}, Keys.of, "a tells b\nb tells a\n#")
        check_raises(self, Ringed, {"ring": ("a", "b")}, Keys.of, "a tells b\nb tells a\nc\nc tells a")

    def test_text_of_the_greatest_length(self):
        line = "a" + " " * 993 + "tells b"
        self.assertEqual(Keys.of("\n".join([line] * 60)).pairs, (("a", "b"),))


if __name__ == "__main__":
    unittest.main()
