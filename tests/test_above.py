"""[13]: several Pipelines at once, and orders of services."""

import inspect
import random
import unittest
from itertools import permutations, product

from keyspans.above import (
    any_order, arrange, how_many_orders, kept_by_all, least_above, must_ahead, orders)
from keyspans.edits import forms
from keyspans.errors import MixedKeys, NoLeast, NoOrder, Unused
from keyspans.keys import Keys
from keyspans.pipelines import Pipeline
from keyspans.stages import Stage
from tests.helpers import (
    check_raises, pipelines, plain_ahead, plain_has, plain_parts, plain_span, plain_within, random_pipeline)

KEYS = Keys(("a", "b", "c"))
OTHER = Keys(("a", "b", "c"), (("a", "b"),))
FIELDS = ("a", "b", "a/2", "a/4", "a/6", "b/3", "b/10", "#/2", "#/3", "#")
KEYSETS = tuple(Keys(("a", "b"), tells) for tells in ((), (("a", "b"),), (("b", "a"),)))
TARGET, OLD = Pipeline.of(KEYS, "a b; b c"), Pipeline.of(KEYS, "a c")
SERVICES = (Stage.of(KEYS, "c"), Stage.of(KEYS, "a"), Stage.of(KEYS, "b"))


def plain_kept(group):
    """The pairs that are kept by all, by the words of the document."""
    parts = sorted({part for p in group for part in plain_parts(p)})
    return [
        (one, other) for one in parts for other in parts if one != other
        and all(plain_ahead(p, one, other) for p in group if plain_span(p, one) and plain_span(p, other))]


def plain_has_least(kept):
    for (f, g), (h, i) in product(kept, kept):
        if (f, i) not in kept and (h, g) not in kept:
            return False
    return True


def some_group(chosen, at):
    keys = KEYSETS[at % 3]
    p = random_pipeline(chosen, keys, FIELDS, 4)
    # Those that are near to one another often have a least one above.
    others = [random_pipeline(chosen, keys, FIELDS, 3) for _ in range(3)]
    near = [p.plain, ~p, p >> p, Pipeline(keys, p.stages[:2]), *others]
    return [p, *chosen.sample(near, chosen.randrange(4))]


class AboveTest(unittest.TestCase):

    def test_kept_by_all(self):
        chosen = random.Random(1)
        for at in range(200):
            group = some_group(chosen, at)
            with self.subTest([p.text for p in group]):
                self.assertEqual(kept_by_all(group), plain_kept(group))
        self.assertEqual(kept_by_all((Pipeline(KEYS),)), [])
        self.assertEqual(kept_by_all((Pipeline.of(KEYS, "a; b/4; c"),)), [
            ("a", "b/2"), ("a", "b/4"), ("a", "c"), ("b/2", "c"), ("b/4", "c")])
        # A pair that none has both PARTs of is there both ways.
        self.assertEqual(kept_by_all((Pipeline.of(KEYS, "a"), Pipeline.of(KEYS, "b"))), [("a", "b"), ("b", "a")])
        self.assertEqual(kept_by_all((Pipeline.of(KEYS, "a"), Pipeline.of(KEYS, "a/4"))), [])

    def check_least(self, group):
        kept = plain_kept(group)
        if not plain_has_least(kept):
            with self.assertRaises(NoLeast) as caught:
                least_above(group)
            first, second = caught.exception.first, caught.exception.second
            for own in (first, second):
                self.assertEqual(own.plain.text, own.text)
                self.assertTrue(all(plain_within(p, own) for p in group))
            # What is <= both has ahead what one of them has ahead; that cannot be.
            self.check_apart(first, second, kept)
            return None
        least = least_above(group)
        self.assertEqual(least.plain.text, least.text)
        self.assertTrue(all(plain_within(p, least) for p in group))
        parts = sorted({part for p in group for part in plain_parts(p)})
        self.assertEqual(
            [(one, other) for one in parts for other in parts if plain_ahead(least, one, other)], kept)
        self.assertTrue(all(any(plain_has(stage, part) for stage in least.stages) for part in parts))
        return least

    def check_apart(self, first, second, kept):
        """There are two pairs, one ahead in each, of which none can be ahead across."""
        found = [
            (f, i, h, g) for (f, g), (h, i) in product(kept, kept)
            if plain_ahead(first, f, g) and plain_ahead(second, h, i) and (f, i) not in kept and (h, g) not in kept]
        self.assertNotEqual(found, [])

    def test_least_above(self):
        chosen = random.Random(2)
        found = []
        for at in range(300):
            group = some_group(chosen, at)
            with self.subTest([p.text for p in group]):
                found.append(self.check_least(group))
        self.assertGreater(found.count(None), 20)
        self.assertGreater(len(found) - found.count(None), 50)

    def test_least_above_against_all_forms(self):
        for keys in (KEYS, OTHER, Keys(("a", "b", "c"), (("a", "b"), ("c", "b")))):
            all_forms = forms(keys)
            for one, other in product(all_forms, all_forms):
                above = [form for form in all_forms if one <= form and other <= form]
                least = [form.text for form in above if all(form <= own for own in above)]
                try:
                    made = [least_above((one, other)).text]
                except NoLeast as error:
                    made = []
                    for own in (error.first, error.second):
                        self.assertIn(own.text, [form.text for form in above])
                    self.assertEqual([form for form in above if form <= error.first and form <= error.second], [])
                with self.subTest((one.text, other.text)):
                    self.assertEqual(made, least)

    def test_least_above_of_one_and_of_equal_ones(self):
        for p in pipelines(KEYS, ("a", "b/4", "a/6 c", "#/3"), 3):
            self.assertEqual(least_above((p,)).text, p.plain.text)
            self.assertEqual(least_above([p, p >> p.plain, p]).text, (p >> p).plain.text)

    def test_least_above_of_many_stages(self):
        chosen = random.Random(3)
        keys = Keys(("a", "b", "c", "d", "e"))
        names = ("#", *keys.names)
        group = tuple(
            Pipeline(keys, [[f"{name}/{chosen.randrange(10 ** 5, 10 ** 6)}" for name in names] for _ in range(12)])
            for _ in range(3))
        self.assertEqual(least_above(group[:1]).text, group[0].plain.text)
        self.assertEqual(least_above((group[0], group[0] ** 2)).text, (group[0] ** 2).plain.text)
        kept = kept_by_all(group)
        self.assertEqual(kept, sorted(kept))
        with self.assertRaises(NoLeast) as caught:
            least_above(group)
        for own in (caught.exception.first, caught.exception.second):
            self.assertTrue(all(p <= own for p in group))

    def test_mixed_keys_come_first(self):
        mine, yours = Pipeline.of(KEYS, "a"), Pipeline.of(OTHER, "a")
        for group in ((mine, yours), (yours, mine), (mine, mine, Pipeline(OTHER)), (Pipeline(Keys(())), mine)):
            check_raises(self, MixedKeys, {}, kept_by_all, group)
            check_raises(self, MixedKeys, {}, least_above, group)
        stage = Stage.of(OTHER, "c")
        for call in (must_ahead, arrange, how_many_orders, any_order, lambda *given: list(orders(*given))):
            for given in ((SERVICES, (TARGET, yours)), ((stage,), (TARGET,)), ((*SERVICES, stage), (OLD,)), ((), (mine, yours)),
                          (SERVICES, (yours,)), ((SERVICES[0], stage), (mine,))):
                check_raises(self, MixedKeys, {}, call, *given)

    def test_the_lists_belong_to_the_caller(self):
        for call, given in ((kept_by_all, ((OLD, TARGET),)), (must_ahead, (SERVICES, (TARGET,)))):
            first = call(*given)
            expected = list(first)
            first.append(())
            self.assertEqual(call(*given), expected)
            self.assertIs(type(first), list)


class OrdersTest(unittest.TestCase):

    def plain_orders(self, services, targets, wishes=()):
        """All orders that fit and in which the wishes hold, by trying."""
        found = []
        for order in permutations(range(len(services))):
            p = Pipeline(targets[0].schema, [services[i] for i in order])
            if all(plain_within(p, target) for target in targets) and all(order.index(i) < order.index(j) for i, j in wishes):
                found.append(order)
        return found

    def plain_must(self, services, targets):
        pairs = set()
        for target in targets:
            for i, j in product(range(len(services)), repeat=2):
                parts = {*plain_parts(target), *plain_parts(Pipeline(target.schema, services)), "a/3", "b/5", "#/7", "a/8"}
                mine = [part for part in parts if plain_has(services[i], part)]
                yours = [part for part in parts if plain_has(services[j], part)]
                if any(plain_ahead(target, one, other) for one in mine for other in yours):
                    pairs.add((i, j))
        return sorted(pairs)

    def plain_unused(self, services, targets):
        for i, service in enumerate(services):
            for j, target in enumerate(targets):
                if any(plain_span(target, part) is None for part in plain_parts(Pipeline(target.schema, (service,)))):
                    return {"service": i, "target": j}
        return None

    def plain_ring(self, many, pairs):
        """The least number of services in a ring, by trying."""
        for length in range(1, many + 1):
            for ring in permutations(range(many), length):
                if all((i, j) in pairs for i, j in zip(ring, ring[1:] + ring[:1])):
                    return length
        return None

    def check(self, services, targets, wishes=()):
        expected = self.plain_orders(services, targets, wishes)
        pairs = self.plain_must(services, targets)
        self.assertEqual(must_ahead(services, targets), pairs)
        self.assertEqual(list(orders(services, targets, wishes=wishes)), expected)
        self.assertEqual(how_many_orders(services, targets, wishes=wishes), len(expected))
        if not wishes:
            every = any_order(services, targets)
            self.assertIs(type(every), bool)
            self.assertIs(every, len(expected) == len(list(permutations(services))))
        unused = self.plain_unused(services, targets)
        if unused is not None:
            check_raises(self, Unused, unused, arrange, services, targets, wishes=wishes)
            return "unused"
        if expected:
            self.assertEqual(arrange(services, targets, wishes=wishes), expected[0])
            return "ordered"
        with self.assertRaises(NoOrder) as caught:
            arrange(services, targets, wishes=wishes)
        ring = caught.exception.ring
        self.assertIs(type(ring), tuple)
        self.assertEqual(len(set(ring)), len(ring))
        self.assertTrue(all(pair in [*pairs, *wishes] for pair in zip(ring, ring[1:] + ring[:1])))
        self.assertEqual(len(ring), self.plain_ring(len(services), [*pairs, *wishes]))
        return "ringed", len(ring)

    def test_against_all_orders(self):
        chosen = random.Random(4)
        seen = []
        for at in range(250):
            keys = KEYSETS[at % 3]
            whole = Pipeline(keys, [Stage(keys, chosen.sample(FIELDS[:7], 2)) for _ in range(3)])
            services = [Stage(keys, chosen.sample(FIELDS[:8], chosen.choice((0, 1, 1, 1, 2)))) for _ in range(chosen.randrange(5))]
            targets = [chosen.choice((whole, whole >> random_pipeline(chosen, keys, FIELDS[:7], 3))) for _ in range(chosen.choice((1, 1, 2)))]
            wishes = [(i, j) for i, j in permutations(range(len(services)), 2) if chosen.random() < .15]
            with self.subTest(([s.text for s in services], [t.text for t in targets], wishes)):
                seen.append(self.check(services, targets))
                seen.append(self.check(services, targets, tuple(wishes)))
        for kind in ("unused", "ordered", ("ringed", 1), ("ringed", 2), ("ringed", 3)):
            self.assertGreater(seen.count(kind), 0)

    def test_rings_of_wishes_and_of_both(self):
        keys = Keys(("a", "b", "c", "d"))
        services = tuple(Stage.of(keys, text) for text in ("d", "c", "b", "a"))
        one = Pipeline.of(keys, "a; b c d")
        self.assertEqual(must_ahead(services, (one,)), [(3, 0), (3, 1), (3, 2)])
        self.assertEqual(self.check(services, (one,), ((0, 1), (1, 2))), "ordered")
        self.assertEqual(self.check(services, (one,), ((0, 1), (1, 2), (2, 0))), ("ringed", 3))
        self.assertEqual(self.check(services, (one,), ((0, 1), (1, 2), (2, 3))), ("ringed", 2))
        self.assertEqual(self.check(services, (one,), ((1, 0), (0, 1), (2, 3))), ("ringed", 2))
        self.assertEqual(self.check(services, (one, Pipeline.of(keys, "b c; a d"))), ("ringed", 2))
        self.assertEqual(self.check(services, (Pipeline.of(keys, "a b; c d; a b"),), ()), "ordered")

    def test_a_service_that_must_stand_ahead_of_itself(self):
        service = Stage.of(KEYS, "a b")
        target = Pipeline.of(KEYS, "a; b c")
        self.assertEqual(must_ahead((service,), (target,)), [(0, 0)])
        check_raises(self, NoOrder, {"ring": (0,)}, arrange, (service,), (target,))
        check_raises(self, NoOrder, {"ring": (1,)}, arrange, (SERVICES[0], service), (target,), wishes=((0, 1),))
        self.assertEqual((list(orders((service,), (target,))), how_many_orders((service,), (target,))), ([], 0))
        self.assertIs(any_order((service,), (target,)), False)
        # Parts of a whole value that no stage brings as such, ahead of one another.
        whole = Stage.of(KEYS, "a")
        self.assertEqual(must_ahead((whole,), (Pipeline.of(KEYS, "a/2; a/3"),)), [(0, 0)])
        check_raises(self, Unused, {"service": 0, "target": 0}, arrange, (whole,), (Pipeline.of(KEYS, "a/2; a/3"),))
        self.assertEqual(must_ahead((Stage.of(KEYS, "a/7"), Stage.of(KEYS, "b")), (Pipeline.of(KEYS, "a; b"),)), [(0, 1)])

    def test_no_services_and_services_without_parts(self):
        for targets in ((TARGET,), (Pipeline(KEYS),), (TARGET, OLD)):
            self.assertEqual(must_ahead((), targets), [])
            self.assertEqual(arrange((), targets), ())
            self.assertEqual(list(orders((), targets)), [()])
            self.assertEqual((how_many_orders((), targets), any_order((), targets)), (1, True))
            nothing = (Stage(KEYS, ()),) * 3
            self.assertEqual(must_ahead(nothing, targets), [])
            self.assertEqual(arrange(nothing, targets), (0, 1, 2))
            self.assertEqual(arrange(nothing, targets, wishes=[[2, 0], [2, 1]]), (2, 0, 1))
            self.assertEqual(list(orders(nothing, targets)), list(permutations(range(3))))
            self.assertEqual((how_many_orders(nothing, targets), any_order(nothing, targets)), (6, True))

    def test_unused_comes_ahead_of_no_order(self):
        pairs = ((0, 1), (1, 0))
        check_raises(self, Unused, {"service": 2, "target": 1}, arrange, SERVICES, (TARGET, OLD), wishes=pairs)
        check_raises(self, Unused, {"service": 0, "target": 2}, arrange, SERVICES, (TARGET, OLD, Pipeline.of(KEYS, "a")))
        check_raises(self, NoOrder, {}, arrange, SERVICES, (TARGET,), wishes=pairs)
        self.assertEqual(list(orders(SERVICES, (TARGET, OLD), wishes=pairs)), [])
        self.assertEqual(how_many_orders(SERVICES, (TARGET, OLD)), 0)
        self.assertIs(any_order(SERVICES, (TARGET, OLD)), False)

    def test_eight_services(self):
        keys = Keys(("a", "b", "c", "d", "e"))
        services = tuple(Stage.of(keys, text) for text in ("e", "d", "c", "b", "a", "a/2", "b/3", "#/2"))
        free = Pipeline.of(keys, "#")
        self.assertEqual(how_many_orders(services, (free,)), 40320)
        self.assertEqual(list(orders(services, (free,))), list(permutations(range(8))))
        self.assertIs(any_order(services, (free,) * 3), True)
        chain = Pipeline.of(keys, "#/2 a; a b; b c; c d; d e")
        found = list(orders(services, (chain, free), wishes=((5, 4),)))
        self.assertEqual(len(found), how_many_orders(services, (chain, free), wishes=((5, 4),)))
        self.assertEqual(found, sorted(found))
        self.assertEqual(found[0], arrange(services, (chain, free), wishes=((5, 4),)))
        for order in found[::97]:
            self.assertTrue(Pipeline(keys, [services[i] for i in order]) <= chain)

    def test_orders_is_a_generator(self):
        self.assertTrue(inspect.isgeneratorfunction(orders))
        mixed = orders(SERVICES, (TARGET, Pipeline(OTHER)))
        self.assertRaises(MixedKeys, next, mixed)
        self.assertEqual(next(orders(SERVICES, (TARGET,))), (1, 0, 2))
        self.assertEqual(list(orders(services=SERVICES, targets=[TARGET], wishes=[])), [(1, 0, 2), (1, 2, 0), (2, 1, 0)])

    def test_wishes_by_name_alone(self):
        for call in (arrange, orders, how_many_orders):
            self.assertRaises(TypeError, call, SERVICES, (TARGET,), ())


if __name__ == "__main__":
    unittest.main()
