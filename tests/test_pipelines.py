"""[7]: the class Pipeline and built."""

import operator
import random
import unittest
from itertools import combinations, permutations

from keyspans.carry import filled
from keyspans.errors import BadField, BadTurns, MixedKeys, NoName, NoPlace
from keyspans.keys import Keys
from keyspans.lanes import pour
from keyspans.pipelines import Pipeline, built
from keyspans.stages import Stage
from tests.helpers import (
    all_names, check_raises, pipelines, plain_ahead, plain_has, plain_parts, plain_reached, plain_span, plain_within,
    random_pipeline, random_row, things)

KEYS = Keys(("item", "shop", "user"), (("shop", "item"),))
OTHER = Keys(("item", "shop", "user"))
PLAIN = Keys(("a", "b"))
FIELDS = ("a", "b", "a/2", "a/4", "a/6", "a/9", "b/3", "b/10", "#/2", "#/3")


def many_pipelines():
    """Pipelines of all kinds, the same in each run."""
    chosen = random.Random(7)
    for keys in (PLAIN, Keys(("a", "b"), (("a", "b"),)), Keys(("a", "b"), (("b", "a"),))):
        for _ in range(60):
            yield random_pipeline(chosen, keys, FIELDS + ("#",), 5)


class MakingTest(unittest.TestCase):

    def test_stages_and_fields_in_any_mixture(self):
        stage = Stage(KEYS, ("user", "shop/2"))
        p = Pipeline(KEYS, (("item", "user/4", "user/6"), stage, (), stage, ("#",)))
        self.assertEqual(p.stages, (Stage(KEYS, ("item", "user/12")), stage, Stage(KEYS, ()), stage, Stage(KEYS, ("#",))))
        self.assertIs(type(p.stages), tuple)
        self.assertEqual(p.schema, KEYS)
        self.assertEqual(p.text, "item user/12; shop/2 user; -; shop/2 user; #")
        self.assertEqual(len(p), 5)
        # Keys that are equal are no other Keys.
        self.assertEqual(Pipeline(Keys(("user", "shop", "item"), (("shop", "item"),)), (stage,)).stages, (stage,))

    def test_without_stages(self):
        for p in (Pipeline(KEYS), Pipeline(KEYS, ()), Pipeline.of(KEYS, ""), Pipeline(keys=KEYS, stages=[])):
            self.assertEqual((p.stages, p.text, p.parts, len(p), p.plain.text), ((), "", (), 0, ""))
            self.assertIs(bool(p), False)
            self.assertEqual(p.schema, KEYS)
            self.assertEqual(p.open_at(0), ())
            self.assertIs(p.span("user"), None)
            self.assertNotIn("user", p)

    def test_of(self):
        for text, stages in (
                ("", ()), ("-", ((),)), ("; ", ((), ())), ("-; -", ((), ())), ("user; ", (("user",), ())),
                ("user ; shop", (("user",), ("shop",))), ("user;  shop ", (("user",), ("shop",))), ("user", (("user",),)),
                ("   user  shop/6   shop/4;  - ;   # ", (("user", "shop/12"), (), ("#",))), ("  ", ((),)),
                ("user/2; #; -; user", (("user/2",), ("#",), (), ("user",)))):
            with self.subTest(text):
                self.assertEqual(Pipeline.of(KEYS, text).stages, Pipeline(KEYS, stages).stages)
        for p in many_pipelines():
            self.assertEqual(Pipeline.of(p.schema, p.text).stages, p.stages)
            self.assertEqual(p.text, "; ".join(stage.text for stage in p.stages))

    def test_of_other_texts(self):
        for text, word in (
                ("user;shop", "user;shop"), ("user; shop;", "shop;"), (";", ";"), ("user; x1", "x1"), ("user;", "user;"),
                ("shop; user/1", "user/1"), ("- -", "-"), ("user; -; - user", "-"), ("user\n", "user\n"),
                ("user;\tshop", "user;\tshop"), ("user/1; user/0", "user/1"), ("user;; shop", "user;"),
                # The pieces are read from the left, and in one piece a bad FIELD comes ahead of a name of none.
                ("user; user/1; a", "user/1"), ("a user/1; b", "user/1")):
            with self.subTest(text):
                check_raises(self, BadField, {"field": word}, Pipeline.of, KEYS, text)
        check_raises(self, NoName, {"name": "a"}, Pipeline.of, KEYS, "user; a/2 b; c")
        check_raises(self, NoName, {"name": "a"}, Pipeline.of, KEYS, "user; a; user/1")

    def test_wrong_stages(self):
        for stages in ((Stage(OTHER, ()),), (("user",), Stage(OTHER, ("user",))), (Stage(KEYS, ()), Stage(OTHER, ("#",))),
                       (("x",), ("user/1",), Stage(OTHER, ())), (Stage(Keys(()), ()), ("x",))):
            with self.subTest(len(stages)):
                check_raises(self, MixedKeys, {}, Pipeline, KEYS, stages)
        check_raises(self, NoName, {"name": "x"}, Pipeline, KEYS, (("user",), ("shop", "x/2"), ("user/1",)))
        check_raises(self, BadField, {"field": "user/1"}, Pipeline, KEYS, (("user",), ("user/1",), ("x",)))
        check_raises(self, BadField, {"field": ""}, Pipeline, KEYS, [["user", ""]])

    def test_arguments_are_copied(self):
        fields = ["user"]
        stages = [fields, Stage(KEYS, ("shop",))]
        p = Pipeline(KEYS, stages)
        fields.append("shop")
        stages.pop()
        self.assertEqual(p.text, "user; shop")


class PartsTest(unittest.TestCase):

    def test_parts(self):
        for text, parts in (
                ("", ()), ("-; -", ()), ("user", ("user",)), ("shop", ("item", "shop")), ("item", ("item",)),
                ("#", ("#", "item", "shop", "user")), ("#/2", ("#/2",)), ("user/12", ("user/2", "user/3", "user/4")),
                ("user; user/12", ("user", "user/2", "user/3", "user/4")), ("shop; item/2", ("item", "item/2", "shop")),
                ("user/4; user/9; user/6", ("user/2", "user/3", "user/4", "user/9")),
                ("user/30", ("user/2", "user/3", "user/5")), ("shop/6 item/6", ("item/2", "item/3", "shop/2", "shop/3")),
                # A name that is told by a whole one is whole itself: its number is no matter.
                ("shop item/2", ("item", "shop")), ("user user/2", ("user",)),
                ("user/16", ("user/16", "user/2", "user/4", "user/8"))):
            with self.subTest(text):
                self.assertEqual(Pipeline.of(KEYS, text).parts, parts)
        for p in many_pipelines():
            with self.subTest(p.text):
                self.assertEqual(p.parts, plain_parts(p))

    def test_parts_of_numbers_put_together(self):
        p = Pipeline.of(PLAIN, "a/999983 a/999979 a/4; a/999983 b/1009 b/1013")
        self.assertEqual(p.parts, ("a/2", "a/4", "a/999979", "a/999983", "b/1009", "b/1013"))
        self.assertEqual(p.span("a/999983"), (0, 1))
        self.assertEqual(p.span("a/999979"), (0, 0))
        field, = p.stages[0].fields
        self.assertEqual(Pipeline(PLAIN, ((field,),)).text, field)
        check_raises(self, BadField, {"field": field}, p.span, field)
        check_raises(self, BadField, {"field": f"b/{1009 * 1013}"}, p.span, f"b/{1009 * 1013}")
        self.assertIn(f"b/{1009 * 1013}", p)
        self.assertIn(field, p)

    def test_span_and_ahead(self):
        for p in many_pipelines():
            parts = sorted({*p.parts, "#", "a", "b", "a/2", "a/8", "a/5", "#/7"})
            for one in parts:
                with self.subTest((p.text, one)):
                    self.assertEqual(p.span(one), plain_span(p, one))
                    for other in parts:
                        self.assertIs(p.ahead(one, other), plain_ahead(p, one, other))

    def test_span_of_parts_that_no_stage_has(self):
        p = Pipeline.of(KEYS, "user; shop/4; user/3")
        self.assertEqual([p.span(part) for part in ("item", "item/2", "#", "#/2", "shop/8", "shop/3", "shop")], [None] * 7)
        self.assertEqual([p.span(part) for part in ("user", "user/3", "user/2", "shop/2")], [(0, 0), (0, 2), (0, 0), (1, 1)])
        self.assertIs(p.ahead("item", "user"), False)
        self.assertIs(p.ahead("user", "item"), False)
        self.assertIs(p.ahead("user", "user"), False)
        self.assertIs(p.ahead("user", "shop/2"), True)
        self.assertIs(p.ahead("user/3", "shop/2"), False)

    def test_texts_that_are_no_parts(self):
        p = Pipeline.of(KEYS, "user/6; shop")
        for text in ("", "user/6", "user/1", "user/0", "-", "user shop", "User", "#/12", "nobody/6", "item/100", "# "):
            with self.subTest(text):
                check_raises(self, BadField, {"field": text}, p.span, text)
                check_raises(self, BadField, {"field": text}, p.ahead, text, "user/6")
                check_raises(self, BadField, {"field": text}, p.ahead, "user", text)
                # Also ahead of a name that there is not.
                check_raises(self, BadField, {"field": text}, p.ahead, "nobody", text)
        check_raises(self, NoName, {"name": "nobody"}, p.span, "nobody")
        check_raises(self, NoName, {"name": "nobody"}, p.span, "nobody/4")
        check_raises(self, NoName, {"name": "nobody"}, p.ahead, "nobody", "noone")
        check_raises(self, NoName, {"name": "noone"}, p.ahead, "user/2", "noone/3")

    def test_open_at(self):
        for p in many_pipelines():
            for place in range(len(p) + 1):
                spans = [(part, plain_span(p, part)) for part in plain_parts(p)]
                with self.subTest((p.text, place)):
                    self.assertEqual(
                        p.open_at(place), tuple(part for part, (first, last) in spans if first < place <= last))
            self.assertEqual((p.open_at(0), p.open_at(len(p))), ((), ()))
            for place in (-1, len(p) + 1, 10 ** 100):
                check_raises(self, NoPlace, {"place": place}, p.open_at, place)


class SignsTest(unittest.TestCase):

    def test_places(self):
        p = Pipeline.of(KEYS, "user; -; shop")
        self.assertEqual([p[place] for place in range(3)], list(p.stages))
        for place in (-1, 3, -3, 10 ** 100):
            check_raises(self, NoPlace, {"place": place}, operator.getitem, p, place)
        check_raises(self, NoPlace, {"place": 0}, operator.getitem, Pipeline(KEYS), 0)

    def test_truth(self):
        for text, true in (("", False), ("-", False), ("-; -; -", False), ("-; #/2; -", True), ("user", True)):
            self.assertIs(bool(Pipeline.of(KEYS, text)), true)

    def test_in(self):
        p = Pipeline.of(KEYS, "user/4; user/9; shop")
        for field in ("user/4", "user/2", "user/9", "shop", "shop/7", "item", "item/100", "item/999999"):
            self.assertIs(field in p, True)
        # No single stage has user/36.
        for field in ("user", "user/6", "user/36", "user/8", "#", "#/2", "nobody", "", "user/1", "user/4; user/9"):
            self.assertIs(field in p, False)
        for one in many_pipelines():
            for field in FIELDS + ("#", "a/12", "b/7"):
                self.assertIs(field in one, any(plain_has(stage, field) for stage in one.stages))

    def test_joined(self):
        p, q = Pipeline.of(KEYS, "user; -"), Pipeline.of(KEYS, "shop; user/2")
        self.assertEqual((p >> q).text, "user; -; shop; user/2")
        self.assertEqual((q >> p).text, "shop; user/2; user; -")
        self.assertEqual((p >> Stage.of(KEYS, "#")).text, "user; -; #")
        self.assertEqual((Pipeline(KEYS) >> Stage.of(KEYS, "-")).text, "-")
        self.assertEqual((Pipeline(KEYS) >> Pipeline(KEYS)).text, "")
        self.assertIs(type(p >> Stage.of(KEYS, "#")), Pipeline)
        self.assertEqual((p.text, q.text), ("user; -", "shop; user/2"))
        self.assertEqual(len(Pipeline.of(KEYS, "; ".join(["user"] * 12)) >> Pipeline.of(KEYS, "; ".join(["#"] * 12))), 24)

    def test_times(self):
        p = Pipeline.of(KEYS, "user; -")
        self.assertEqual([(p ** n).text for n in range(4)], ["", "user; -", "user; -; user; -", "; ".join(["user; -"] * 3)])
        self.assertEqual((p ** 0).schema, KEYS)
        self.assertEqual((Pipeline(KEYS) ** 5).text, "")

    def test_reversed(self):
        self.assertEqual((~Pipeline.of(KEYS, "user; -; shop user/2")).text, "shop user/2; -; user")
        self.assertEqual((~Pipeline(KEYS)).text, "")
        for p in many_pipelines():
            self.assertEqual((~p).stages, p.stages[::-1])

    def test_mixed_keys(self):
        p = Pipeline.of(KEYS, "user; shop")
        for q in (Pipeline.of(OTHER, "user; shop"), Pipeline(OTHER), Pipeline(Keys(())), Pipeline.of(Keys(("user",)), "user")):
            for sign in (operator.le, operator.lt, operator.ge, operator.gt, operator.rshift):
                check_raises(self, MixedKeys, {}, sign, p, q)
                check_raises(self, MixedKeys, {}, sign, q, p)
                check_raises(self, MixedKeys, {}, sign, Pipeline(KEYS), q)
            self.assertIs(p == q, False)
            self.assertIs(p != q, True)
            self.assertIs(Pipeline(KEYS) == q, False)
        for stage in (Stage(OTHER, ()), Stage(OTHER, ("user",))):
            check_raises(self, MixedKeys, {}, operator.rshift, p, stage)
            check_raises(self, MixedKeys, {}, operator.rshift, Pipeline(KEYS), stage)

    def test_equal_to_nothing_else(self):
        stage = Stage(KEYS, ("user",))
        p = Pipeline(KEYS, (stage,))
        for thing in [*things(), stage, (stage,), p.stages, p.text, KEYS, [p], (p,)]:
            self.assertIs(p == thing, False)
            self.assertIs(p != thing, True)
            self.assertIs(thing == p, False)
            self.assertIs(Pipeline(KEYS) == thing, False)

    def test_signs_beside_other_things(self):
        p = Pipeline.of(KEYS, "user")
        for thing in (None, 1, "user", ("user",), [p], KEYS):
            for sign in (operator.le, operator.lt, operator.rshift):
                with self.assertRaises(TypeError):
                    sign(p, thing)
        for sign in (operator.le, operator.lt):
            with self.assertRaises(TypeError):
                sign(p, p[0])

    def test_not_iterated_over(self):
        with self.assertRaises(TypeError):
            list(Pipeline.of(KEYS, "user"))


class OrderTest(unittest.TestCase):

    def test_alike_with_other_stages(self):
        for one, other in (
                ("user; item; user", "item user"), ("", "-; -"), ("user", "user; user; user/2"), ("-; user; -", "user"),
                ("user/2; user/3; user/2", "user/6"), ("shop; item", "shop"), ("shop item", "shop"), ("#; user; shop", "#"),
                ("user; user/2; item", "user; item"), ("user/4; user/9; user/6", "user/4; user/18")):
            p, q = Pipeline.of(KEYS, one), Pipeline.of(KEYS, other)
            with self.subTest((one, other)):
                self.assertIs(p == q, True)
                self.assertIs(p != q, False)
                self.assertIs(p <= q and q <= p, True)
                self.assertIs(p < q or q < p, False)
                self.assertEqual(p.plain.text, q.plain.text)

    def test_within_by_the_parts(self):
        chosen = random.Random(8)
        for p in many_pipelines():
            q = random_pipeline(chosen, p.schema, FIELDS, 4)
            for one, other in ((p, q), (q, p), (p, p), (p, p >> q), (q, p >> q), (p >> q, p), (p ** 2, p), (p, ~p)):
                with self.subTest((one.text, other.text)):
                    within, back = plain_within(one, other), plain_within(other, one)
                    self.assertIs(one <= other, within)
                    self.assertIs(one >= other, back)
                    self.assertIs(one < other, within and not back)
                    self.assertIs(one > other, back and not within)
                    self.assertIs(one == other, within and back)

    def test_parts_that_only_the_other_brings_are_looked_at(self):
        # p has user/2 in its whole user alone; q has it once more behind item.
        p, q = Pipeline.of(KEYS, "item; user"), Pipeline.of(KEYS, "user; item; user/2")
        self.assertIs(p <= q, False)
        self.assertIs(Pipeline.of(KEYS, "item; user/2") <= q, True)
        self.assertIs(Pipeline.of(KEYS, "item; user/3") <= q, False)
        self.assertIs(Pipeline.of(KEYS, "user/6") <= Pipeline.of(KEYS, "user/2; user/3"), False)
        self.assertIs(Pipeline.of(KEYS, "user/2; user/3") <= Pipeline.of(KEYS, "user/6"), True)
        self.assertIs(Pipeline.of(KEYS, "user/35") <= Pipeline.of(KEYS, "user"), True)
        self.assertIs(Pipeline.of(KEYS, "user") <= Pipeline.of(KEYS, "user/35"), False)

    def test_against_all_orders_that_come_out(self):
        """p <= q exactly if nothing comes out of p alone, for all rows of four and less with two values."""
        keys = Keys(("a", "b"))
        all_of_them = pipelines(keys, ("", "a", "b", "a b"), 3)
        plains = list({p.plain.text: p.plain for p in all_of_them}.values())
        corners = ((0, 0), (0, 1), (1, 0), (1, 1))
        rows = [tuple(enumerate(order)) for many in (2, 3, 4) for order in permutations(corners, many)]
        found = {p.text: [frozenset(plain_reached(p, row)[-1]) for row in rows] for p in plains}
        for p in all_of_them:
            outs = [frozenset(plain_reached(p, row)[-1]) for row in rows] if len(p) < 3 else found[p.plain.text]
            for q in plains:
                with self.subTest((p.text, q.text)):
                    self.assertIs(p <= q, all(mine <= theirs for mine, theirs in zip(outs, found[q.text])))

    def test_nothing_else_comes_out_where_one_is_within(self):
        chosen = random.Random(9)
        within = 0
        for p in many_pipelines():
            q = random_pipeline(chosen, p.schema, FIELDS, 4)
            for other in (q, p >> q, q >> p, p.plain):
                if p <= other:
                    within += 1
                    row = random_row(chosen, p.schema, 4, (0, 1, 2, 4, 6, 12, -3))
                    with self.subTest((p.text, other.text, row)):
                        self.assertLessEqual(set(plain_reached(p, row)[-1]), set(plain_reached(other, row)[-1]))
        self.assertGreater(within, 100)


class PlainTest(unittest.TestCase):

    def test_forms(self):
        for text, plain in (
                ("", ""), ("-", ""), ("-; -; -", ""), ("user; -; -", "user"), ("-; user", "user"), ("user; -; item", "user; item"),
                ("-; user; -; item; -", "user; item"), ("user; user", "user"), ("user/2; user", "user"), ("user; user/2", "user"),
                ("user; item user; item", "item user"), ("user; item; user", "item user"), ("user; item; shop", "user; shop"),
                ("shop; item", "shop"), ("item; shop", "shop"), ("#; user", "#"), ("#/2; #/3", "#/2; #/3"), ("#/2; #/3; #/2", "#/6"),
                ("user/4; user/9; user/6", "user/4; user/18"), ("item; user; item/2", "item; item/2 user"),
                ("user; item; user/2; item", "user; item user/2")):
            p = Pipeline.of(KEYS, text)
            with self.subTest(text):
                self.assertEqual(p.plain.text, plain)
                self.assertEqual(p.plain, p)
                self.assertEqual(p.plain.schema, KEYS)
                self.assertEqual(p.plain.plain.text, plain)

    def test_whichever_stage_is_left_out_first(self):
        chosen = random.Random(10)
        for p in many_pipelines():
            stages = list(filled(p).stages)
            while True:
                needless = [
                    at for at in range(len(stages))
                    if any(stages[at] <= stages[near] for near in (at - 1, at + 1) if 0 <= near < len(stages))]
                if not needless:
                    break
                stages.pop(chosen.choice(needless))
            if [stage.text for stage in stages] == ["-"]:
                stages = []
            with self.subTest(p.text):
                self.assertEqual(p.plain.text, "; ".join(stage.text for stage in stages))

    def test_the_fewest_stages_of_all_that_are_alike(self):
        keys = Keys(("a", "b"))
        by_outs, by_plain = {}, {}
        for p in pipelines(keys, ("", "a", "b", "a b"), 4):
            parts = plain_parts(p)
            pairs = tuple((one, other) for one in parts for other in parts if plain_ahead(p, one, other))
            by_outs.setdefault((parts, pairs), []).append(p)
            by_plain.setdefault(p.plain.text, []).append(p.text)
        self.assertEqual(
            sorted(sorted(p.text for p in group) for group in by_outs.values()), sorted(sorted(texts) for texts in by_plain.values()))
        for group in by_outs.values():
            plain = group[0].plain
            self.assertEqual({p.plain.text for p in group}, {plain.text})
            self.assertEqual(len(plain), min(len(p) for p in group))
            self.assertIn(plain.text, {p.text for p in group})

    def test_the_fewest_stages_with_numbers_and_tellings(self):
        for keys, choices in (
                (Keys(("a",)), ("", "a/2", "a/4", "a/3", "a/6", "a")),
                (Keys(("a", "b"), (("a", "b"),)), ("", "a", "b", "b/2", "#", "a/2"))):
            fewest = {}
            for p in pipelines(keys, choices, 3):
                with self.subTest(p.text):
                    self.assertLessEqual(len(p.plain), fewest.setdefault(p.plain.text, len(p)))
                    self.assertIs(plain_within(p, p.plain) and plain_within(p.plain, p), True)
                    for stage in p.plain.stages:
                        self.assertGreater(len(stage), 0)


class CallTest(unittest.TestCase):

    def test_rows_go_through_the_stages_in_order(self):
        p = Pipeline.of(KEYS, "user; item; -")
        row = ((1, (5, 1, 7)), (2, (6, 2, 7)), (3, (5, 1, 8)))
        first = pour(p[0], row, (1, 0, 0))
        second = pour(p[1], first, (0, 1, 0))
        self.assertEqual([number for number, values in first], [3, 1, 2])
        self.assertEqual(p(row, ((1, 0, 0), (0, 1, 0), (0, 0, 0))), second)
        self.assertEqual(p(row=row, turns=((1, 0, 0), (0, 1, 0), (0, 0, 0))), second)
        self.assertEqual(p((), ((), (), ())), ())
        self.assertEqual(Pipeline(KEYS)(row, ()), row)
        self.assertEqual(Pipeline(KEYS)([[1, [5, 1, 7]]], []), ((1, (5, 1, 7)),))

    def test_wrong_turns(self):
        p = Pipeline.of(KEYS, "user; item")
        row = ((1, (5, 1, 7)), (2, (6, 2, 7)), (3, (5, 1, 8)))
        good = ((0, 0, 1), (0, 1, 0))
        self.assertEqual([number for number, values in p(row, good)], [1, 2, 3])
        for turns, place in (
                ((), 0), (good[:1], 1), ((*good, ()), 2), ((*good, (0,), (0,)), 2), (((0, 0, 1), (0, 1, 1)), 1),
                (((0, 0, 2), (0, 1, 0)), 0), (((0, 0), (0, 1, 0)), 0), (((0, 0, 1), (0, 1, 0, 0)), 1), (((0, 0, 0), ()), 0),
                (((0, 0, 1), ()), 1), (((), ()), 0), (((5,),), 0), (((0, 0, 1), (5,), (0,)), 1), (((5,), (5,), (5,)), 0)):
            with self.subTest(turns):
                check_raises(self, BadTurns, {"place": place}, p, row, turns)
        check_raises(self, BadTurns, {"place": 0}, Pipeline(KEYS), row, ((0,),))
        check_raises(self, BadTurns, {"place": 0}, Pipeline(KEYS), (), ((),))


class BuiltTest(unittest.TestCase):

    def test_all_orders_of_few_names(self):
        for keys in (Keys(("a", "b", "c")), Keys(("a", "b", "c"), (("a", "b"),)), Keys(("a", "b", "c"), (("a", "b"), ("a", "c")))):
            plains = {}
            for p in pipelines(keys, ("", "a", "b", "c", "a b", "a c", "b c", "a b c"), 3):
                pairs = tuple((one, other) for one in p.parts for other in p.parts if plain_ahead(p, one, other))
                plains[p.parts, pairs] = p.plain.text
            for many in range(4):
                for names in combinations(("a", "b", "c"), many):
                    self.check_all_pairs(keys, names, plains)

    def check_all_pairs(self, keys, names, plains):
        mates = [(one, other) for one in names for other in names if one != other]
        for many in range(len(mates) + 1):
            for pairs in combinations(mates, many):
                made = built(keys, names, pairs)
                with self.subTest((keys.text, names, pairs)):
                    self.assertEqual(None if made is None else made.text, plains.get((names, pairs)))
                    if made is not None:
                        self.assertEqual((made.text, made.parts), (made.plain.text, names))
                        self.assertEqual(made.schema, keys)

    def test_without_names(self):
        self.assertEqual(built(KEYS, (), ()).text, "")
        self.assertEqual(built(Keys(()), (), ()).text, "")

    def test_the_number_of_a_record_among_the_names(self):
        self.assertEqual(built(KEYS, ("#", "item", "shop", "user"), ()).text, "#")
        self.assertIs(built(KEYS, ("#", "user"), ()), None)
        self.assertIs(built(KEYS, ("#",), ()), None)
        self.assertEqual(built(Keys(()), ("#",), ()).text, "#")
        self.assertIs(built(KEYS, ("#", "item", "shop", "user"), (("#", "user"),)), None)

    def test_sets_ahead_that_do_not_lie_within_one_another(self):
        keys = Keys(("a", "b", "c", "d"))
        self.assertIs(built(keys, ("a", "b", "c", "d"), (("a", "b"), ("c", "d"))), None)
        self.assertEqual(built(keys, ("a", "b", "c", "d"), (("a", "b"), ("a", "d"), ("c", "d"))).text, "a c; b c; b d")
        self.assertIs(built(keys, ("a", "b"), (("a", "b"), ("b", "a"))), None)
        self.assertIs(built(keys, ("a", "b", "c"), (("a", "b"), ("b", "c"))), None)

    def test_names_of_none(self):
        check_raises(self, NoName, {"name": "x"}, built, KEYS, ("user", "x", "y"), ())
        check_raises(self, NoName, {"name": "zebra"}, built, KEYS, ["#", "zebra"], [["#", "zebra"]])
        check_raises(self, NoName, {"name": "#x"}, built, KEYS, ("#x",), ())

    def test_stages_stand_for_the_sets_ahead(self):
        keys = Keys(("a", "b", "c", "d"))
        for p in pipelines(keys, ("a", "b c", "d a", "c"), 3):
            pairs = [(one, other) for one in p.parts for other in p.parts if plain_ahead(p, one, other)]
            before = {name: {one for one, other in pairs if other == name} for name in p.parts}
            texts = []
            for level in sorted({frozenset(ahead) for ahead in before.values()}, key=len):
                texts.append(" ".join(name for name in p.parts if before[name] <= level and name not in level))
            with self.subTest(p.text):
                self.assertEqual(built(keys, p.parts, pairs).text, "; ".join(texts))
                self.assertEqual(built(keys, p.parts, pairs), p)


if __name__ == "__main__":
    unittest.main()
