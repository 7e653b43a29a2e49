"""[12]: changes of a Pipeline, and all forms that Pipelines can have."""

import random
import unittest
from itertools import product
from math import comb

from keyspans.edits import (
    edited, effect, forms, how_many_forms, joints, lean, needless_stages, swaps, twice)
from keyspans.errors import BadField, NoName, NoPart, NoPlace
from keyspans.keys import Keys
from keyspans.pipelines import Pipeline
from keyspans.stages import Stage
from tests.helpers import check_raises, pipelines, plain_ahead, plain_span, plain_within, random_pipeline

KEYS = Keys.of("user\nshop tells city")
FIELDS = ("a", "b", "a/2", "a/4", "a/6", "b/3", "b/10", "#/2", "#/3", "#")
KEYSETS = tuple(Keys(("a", "b"), tells) for tells in ((), (("a", "b"),), (("b", "a"),)))


def some_edits(chosen, p):
    """EDITs of all kinds that p can have."""
    edits = [("put", place, text) for place in range(len(p) + 1) for text in ("-", "a", "b/2 a/3")]
    for place in range(len(p)):
        edits.append(("drop", place))
        edits.extend(("set", place, name, m) for name in ("#", *p.schema.names) for m in (0, 1, 2, 12))
    for place in range(len(p) - 1):
        edits.extend([("swap", place), ("join", place)])
    return chosen.sample(edits, min(len(edits), 8))


def plain_effect(p, q):
    less, more = plain_within(q, p), plain_within(p, q)
    return {(True, True): "same", (True, False): "less", (False, True): "more", (False, False): "neither"}[less, more]


def texts(found):
    return [own.text for own in found]


class EditedTest(unittest.TestCase):

    def check(self, before, edit, after):
        p = Pipeline.of(KEYS, before)
        with self.subTest((before, edit)):
            self.assertEqual(edited(p, edit).text, after)
            self.assertEqual(edited(p, list(edit)).text, after)
            self.assertEqual(p.text, before)

    def test_set(self):
        self.check("user; shop", ("set", 0, "user", 4), "user/4; shop")
        self.check("user; shop", ("set", 0, "user", 1), "-; shop")
        self.check("user; shop", ("set", 1, "user", 0), "user; shop user")
        self.check("user/4; -", ("set", 0, "user", 0), "user; -")
        self.check("user/4", ("set", 0, "#", 6), "#/6 user/4")
        self.check("user/4", ("set", 0, "#", 0), "#")
        # A name that another name with 0 tells has 0, whatever it is set to.
        for m in (0, 1, 2, 12):
            self.check("shop", ("set", 0, "city", m), "shop")
            self.check("#", ("set", 0, "user", m), "#")
        # What was told stays as it is when the teller goes.
        self.check("shop", ("set", 0, "shop", 1), "city")
        self.check("shop", ("set", 0, "shop", 6), "city shop/6")
        self.check("#", ("set", 0, "#", 1), "shop user")
        self.check("city/3", ("set", 0, "shop", 0), "shop")
        self.check("city/3", ("set", 0, "shop", 5), "city/3 shop/5")
        self.check("user", ("set", 0, "user", 10 ** 6), "user/1000000")

    def test_drop_put_swap_join(self):
        self.check("user; shop; -", ("drop", 1), "user; -")
        self.check("user", ("drop", 0), "")
        self.check("user; shop", ("put", 0, "city"), "city; user; shop")
        self.check("user; shop", ("put", 1, "-"), "user; -; shop")
        self.check("user; shop", ("put", 2, " user/2  user/3 "), "user; shop; user/6")
        self.check("", ("put", 0, ""), "-")
        self.check("user; shop; -", ("swap", 0), "shop; user; -")
        self.check("user; shop; -", ("swap", 1), "user; -; shop")
        self.check("user/4; user/6; city", ("join", 0), "user/12; city")
        self.check("user/4; city; shop", ("join", 1), "user/4; shop")

    def test_no_place_comes_first(self):
        p = Pipeline.of(KEYS, "user; shop; -")
        for place in (-1, 3, 4, 10 ** 9):
            for edit in (("set", place, "nobody", 2), ("drop", place), ("swap", place), ("join", place)):
                for call in (edited, effect):
                    check_raises(self, NoPlace, {"place": place}, call, p, edit)
        for place in (-1, 4):
            check_raises(self, NoPlace, {"place": place}, edited, p, ("put", place, "user/1"))
        for word in ("swap", "join"):
            check_raises(self, NoPlace, {"place": 2}, edited, p, (word, 2))
            check_raises(self, NoPlace, {"place": 0}, edited, Pipeline(KEYS), (word, 0))
            check_raises(self, NoPlace, {"place": 0}, effect, Pipeline.of(KEYS, "user"), (word, 0))
        check_raises(self, NoPlace, {"place": 0}, edited, Pipeline(KEYS), ("drop", 0))
        check_raises(self, NoPlace, {"place": 0}, edited, Pipeline(KEYS), ("set", 0, "user", 0))

    def test_other_errors(self):
        p = Pipeline.of(KEYS, "user; shop")
        for call in (edited, effect):
            check_raises(self, NoName, {"name": "nobody"}, call, p, ("set", 1, "nobody", 2))
            check_raises(self, NoName, {"name": ""}, call, p, ("set", 1, "", 1))
            check_raises(self, NoName, {"name": "nobody"}, call, p, ("put", 2, "user nobody"))
            check_raises(self, BadField, {"field": "user/1"}, call, p, ("put", 0, "nobody user/1"))
            check_raises(self, BadField, {"field": "user;"}, call, p, ("put", 0, "user; shop"))


class EffectTest(unittest.TestCase):

    def test_against_the_order(self):
        chosen = random.Random(1)
        words = []
        for at in range(90):
            p = random_pipeline(chosen, KEYSETS[at % 3], FIELDS, 4)
            for edit in some_edits(chosen, p):
                with self.subTest((p.text, edit)):
                    words.append(effect(p, edit))
                    self.assertEqual(words[-1], plain_effect(p, edited(p, edit)))
        for word in ("same", "less", "more", "neither"):
            self.assertGreater(words.count(word), 5)

    def test_places_without_effect(self):
        chosen = random.Random(2)
        for at in range(60):
            p = random_pipeline(chosen, KEYSETS[at % 3], FIELDS, 6)
            with self.subTest(p.text):
                many = len(p)
                self.assertEqual(needless_stages(p), tuple(k for k in range(many) if effect(p, ("drop", k)) == "same"))
                self.assertEqual(swaps(p), tuple(k for k in range(many - 1) if effect(p, ("swap", k)) == "same"))
                self.assertEqual(joints(p), tuple(k for k in range(many - 1) if effect(p, ("join", k)) == "same"))
        for text in ("", "user"):
            p = Pipeline.of(KEYS, text)
            self.assertEqual((needless_stages(p), swaps(p), joints(p)), ((), (), ()))
        p = Pipeline.of(KEYS, "-; user; user; -")
        self.assertEqual((needless_stages(p), swaps(p), joints(p)), ((0, 1, 2, 3), (0, 1, 2), (0, 1, 2)))

    def test_many_stages(self):
        chosen = random.Random(3)
        keys = Keys(("a", "b", "c", "d", "e"))
        names = ("#", *keys.names)
        p = Pipeline(keys, [[f"{name}/{chosen.randrange(10 ** 5, 10 ** 6)}" for name in names for _ in (0, 1)] for _ in range(12)])
        p = p >> p[11]
        self.assertEqual(needless_stages(p), (11, 12))
        self.assertEqual(swaps(p), (11,))
        self.assertEqual(joints(p), (11,))
        self.assertEqual(effect(p, ("put", 13, p[12].text)), "same")
        self.assertEqual(lean(p), p)


class LeanTest(unittest.TestCase):

    def test_lean(self):
        chosen = random.Random(4)
        shorter = 0
        for at in range(100):
            p = random_pipeline(chosen, KEYSETS[at % 3], FIELDS, 6)
            made, plain = lean(p), p.plain
            with self.subTest(p.text):
                self.assertEqual(len(made), len(plain))
                self.assertTrue(made == p)
                self.assertEqual(needless_stages(made), ())
                for place in range(len(plain)):
                    parts = [part for part in p.parts if place in plain_span(plain, part)]
                    self.assertEqual(made[place], Stage(p.schema, parts))
                shorter += made.text != plain.text
        self.assertGreater(shorter, 0)
        self.assertEqual(lean(Pipeline.of(KEYS, "-; -")).text, "")
        long = Pipeline.of(Keys(("a", "b", "c", "d")), "a; d b; d c; d")
        self.assertEqual(lean(long).text, "a; b d; c d")
        self.assertEqual(lean(Pipeline.of(Keys(("a", "b", "c", "d")), "a d; b; c d")).text, "a d; b; c d")
        self.assertEqual(lean(Pipeline.of(Keys(("a", "b", "c", "d")), "a d; b; c d")).plain.text, "a d; b d; c d")

    def test_twice(self):
        chosen = random.Random(5)
        found = 0
        for at in range(150):
            p = random_pipeline(chosen, KEYSETS[at % 3], FIELDS, 6)
            for part in [*p.parts, "a/5", "b/7", "#/11", "a/8"]:
                span = plain_span(p.plain, part)
                with self.subTest((p.text, part)):
                    if span is None:
                        check_raises(self, NoPart, {"part": part}, twice, p, part)
                    elif span[0] == span[1]:
                        self.assertIs(twice(p, part), None)
                    else:
                        found += 1
                        one, other = twice(p, part)
                        self.assertIn(one, p.parts)
                        self.assertIn(other, p.parts)
                        self.assertTrue(plain_ahead(p, one, other))
                        for own in (one, other):
                            self.assertFalse(plain_ahead(p, own, part) or plain_ahead(p, part, own))
        self.assertGreater(found, 30)

    def test_twice_by_hand(self):
        keys = Keys(("a", "b", "c", "d"))
        three = Pipeline.of(keys, "a d; b d; c d")
        self.assertEqual(twice(three, "d"), ("a", "c"))
        self.assertEqual([twice(three, part) for part in ("a", "b", "c")], [None] * 3)
        self.assertEqual(twice(pipeline=three, part="d/6"), ("a", "c"))
        for part in ("#", "#/2", "x", "x/2"):
            check_raises(self, NoPart, {"part": part}, twice, three, part)
        check_raises(self, NoPart, {"part": "a"}, twice, Pipeline(keys), "a")


class FormsTest(unittest.TestCase):

    def plain_forms(self, keys, most):
        """The plain forms of all Pipelines of few stages, each stage with some of the names."""
        stages = [" ".join(names) for many in range(len(keys) + 1) for names in product(keys.names, repeat=many)]
        stages = sorted({Stage.of(keys, text).text for text in stages})
        found = {p.plain.text: p.plain for p in pipelines(keys, [text.replace("-", "") for text in stages], most)}
        return [text for _, text in sorted((len(found[text]), text) for text in found)]

    def test_against_all_pipelines(self):
        names = ("a", "b", "c")
        for most, keys in (
                (1, Keys(())), (2, Keys(("a",))), (3, Keys(("a", "b"))), (3, Keys(("a", "b"), (("a", "b"),))),
                (4, Keys(names)), (3, Keys(names, (("a", "b"),))), (3, Keys(names, (("c", "b"), ("b", "a")))),
                (3, Keys(names, (("a", "b"), ("a", "c")))), (3, Keys(names, (("a", "c"), ("b", "c"))))):
            with self.subTest(keys.text):
                self.assertEqual(texts(forms(keys)), self.plain_forms(keys, most))

    def test_each_is_its_own_plain_form(self):
        for keys in (Keys(("a", "b", "c", "d")), Keys(("a", "b", "c", "d"), (("d", "a"), ("b", "c")))):
            found = forms(keys=keys)
            self.assertIs(type(found), list)
            self.assertEqual([form.plain.text for form in found], texts(found))
            self.assertEqual(len(set(texts(found))), len(found))
            self.assertEqual([(len(form), form.text) for form in found], sorted((len(form), form.text) for form in found))
            for form in found:
                self.assertTrue(set(form.parts) <= set(keys.names))

    def test_random_pipelines_have_a_form(self):
        chosen = random.Random(6)
        for keys in (Keys(("a", "b", "c", "d")), Keys(("a", "b", "c", "d"), (("d", "a"), ("b", "c")))):
            found = texts(forms(keys))
            for _ in range(40):
                self.assertIn(random_pipeline(chosen, keys, keys.names, 8).plain.text, found)

    def test_how_many(self):
        for count in range(5):
            self.assertEqual(how_many_forms(count), len(forms(Keys(("a", "b", "c", "d")[:count]))))
        self.assertEqual(texts(forms(Keys(()))), [""])
        self.assertEqual(how_many_forms(count=0), 1)

    def test_how_many_by_the_ways_to_give_spans(self):
        """By the rule: no span or one of some of k places, where each place begins and ends a span."""
        for count in range(5):
            ways = 0
            for k in range(count + 1):
                spans = [None] + [(first, last) for last in range(k) for first in range(last + 1)]
                for way in product(spans, repeat=count):
                    taken = [span for span in way if span]
                    ways += {span[0] for span in taken} == {span[1] for span in taken} == set(range(k))
            self.assertEqual(how_many_forms(count), ways)

    def test_how_many_of_many_names(self):
        # With a span for each name they are the labelled interval orders.
        orders = [
            1, 1, 3, 19, 207, 3451, 81663, 2602699, 107477247, 5581680571, 356046745023, 27365431508779, 2494237642655487]
        for count in range(13):
            self.assertEqual(how_many_forms(count), sum(comb(count, taken) * orders[taken] for taken in range(count + 1)))

    def test_the_list_belongs_to_the_caller(self):
        keys = Keys(("a", "b"))
        found = forms(keys)
        expected = texts(found)
        found.clear()
        self.assertEqual(texts(forms(keys)), expected)


if __name__ == "__main__":
    unittest.main()
