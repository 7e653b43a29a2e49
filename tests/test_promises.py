"""[11]: Promises, Restorers and Lines."""

import random
import unittest
from itertools import product

from keyspans.carry import is_run
from keyspans.errors import BadField, BadTurns, Descending, MixedKeys, NoName, NoPlace, NoRecord
from keyspans.keys import Keys
from keyspans.lanes import outs, passes, turns_of
from keyspans.pipelines import Pipeline
from keyspans.promises import Line, Promise, Restorer, mends, places_of, run_to
from keyspans.stages import Stage
from tests.helpers import (
    check_raises, numbers, pipelines, plain_crossed, plain_lane, plain_reached, random_pipeline, random_row, things)

KEYS = Keys(("item", "user"))
OTHER = Keys(("item", "user"), (("item", "user"),))
EMPTY = Pipeline(KEYS)
MIXED = Pipeline.of(KEYS, "user; item; user/2")
ROW = ((0, (1, 1)), (1, (2, 1)), (2, (1, 2)), (3, (1, 1)))
FIELDS = ("a", "b", "a/2", "a/4", "a/6", "b/3", "b/10", "#/2", "#/3", "#")
KEYSETS = tuple(Keys(("a", "b"), tells) for tells in ((), (("a", "b"),), (("b", "a"),)))


def some_stage(chosen, keys):
    return Stage(keys, chosen.sample(FIELDS, chosen.choice((0, 1, 1, 2, 3))))


def ascending(row):
    return tuple(sorted(row))


def plain_kept(p, stage, row):
    """Whether no two RECORDs of one lane come out of p exchanged, by all orders behind the stages."""
    records = {record[0]: record for record in row}
    return all(
        not plain_crossed(p.schema, stage, row, [records[number] for number in order])
        for order in plain_reached(p, row)[-1])


class PromiseTest(unittest.TestCase):

    def test_kept_and_broken(self):
        chosen = random.Random(1)
        broken = 0
        for at in range(150):
            keys = KEYSETS[at % 3]
            p, stage = random_pipeline(chosen, keys, FIELDS, 4), some_stage(chosen, keys)
            promise = Promise(stage)
            with self.subTest((p.text, stage.text)):
                kept = promise(p)
                self.assertIs(type(kept), bool)
                self.assertIs(kept, all(own <= stage for own in p.stages))
                run = promise.broken(p)
                self.assertIs(run is None, kept)
                if run is None:
                    row = random_row(chosen, keys, 4, (0, 1, 2, 3, 4))
                    self.assertTrue(plain_kept(p, stage, row))
                else:
                    broken += 1
                    self.assertIs(is_run(p, run), True)
                    one, other = run[0]
                    self.assertEqual(run[-1], (other, one))
                    self.assertEqual(plain_lane(keys, stage, one), plain_lane(keys, stage, other))
        self.assertGreater(broken, 30)

    def test_edges(self):
        nothing, number = Promise(Stage(KEYS, ())), Promise(Stage(KEYS, ("#",)))
        for text in ("", "-", "-; -"):
            self.assertIs(nothing(Pipeline.of(KEYS, text)), True)
            self.assertIs(nothing.broken(Pipeline.of(KEYS, text)), None)
        for p in (EMPTY, MIXED, Pipeline.of(KEYS, "#"), Pipeline.of(KEYS, "#/6; user")):
            self.assertIs(number(p), True)
            self.assertIs(number.broken(p), None)
        for text in ("#", "#/2", "user; -"):
            p = Pipeline.of(KEYS, text)
            self.assertIs(nothing(p), False)
            self.assertIs(is_run(p, nothing.broken(p)), True)
            self.assertEqual(nothing.broken(p)[0][::-1], nothing.broken(p)[-1])
        self.assertIs(nothing(Pipeline.of(KEYS, "-; user")), False)
        all_of_them = Promise(Stage.of(KEYS, "item user"))
        self.assertIs(all_of_them(Pipeline.of(KEYS, "item; user")), True)
        self.assertIs(all_of_them(Pipeline.of(KEYS, "item; #/2; user")), False)
        self.assertIs(Promise(Stage.of(OTHER, "item"))(Pipeline.of(OTHER, "user")), True)

    def test_order(self):
        for keys in KEYSETS:
            promises = [Promise(Stage.of(keys, text)) for text in ("-", "a", "b", "a/2", "a/6", "b a/4", "#", "#/3")]
            for one, other in product(promises, promises):
                self.assertIs(one <= other, one.stage <= other.stage)
                self.assertIs(one < other, one.stage < other.stage)
                self.assertIs(one == other, one.stage == other.stage)
                self.assertIs(one != other, one.stage != other.stage)
                self.assertEqual((one & other).stage, one.stage & other.stage)
                self.assertIs(type(one & other), Promise)

    def test_order_by_the_pipelines_that_keep_them(self):
        keys = Keys(("a",))
        stages = [Stage.of(keys, text) for text in ("-", "a/2", "a/4", "a/3", "a/6", "a", "#/2", "#")]
        all_pipelines = [Pipeline(keys, (stage,)) for stage in stages] + [Pipeline(keys)]
        for one, other in product([Promise(stage) for stage in stages], repeat=2):
            mine, yours = [p for p in all_pipelines if one(p)], [p for p in all_pipelines if other(p)]
            self.assertIs(one <= other, all(any(p == own for own in yours) for p in mine))
            both = [p for p in mine if any(p == own for own in yours)]
            self.assertEqual([p.text for p in all_pipelines if (one & other)(p)], [p.text for p in both])

    def test_least(self):
        for keys in KEYSETS:
            for p in pipelines(keys, ("", "a", "b/4", "a/6 #/2"), 3):
                least = Promise.least(p)
                self.assertIs(least(p), True)
                for text in ("-", "a", "a b", "b/2", "b/4", "a/6 b/4 #/2", "a/3", "#"):
                    self.assertIs(Promise(Stage.of(keys, text))(p), least <= Promise(Stage.of(keys, text)))
        self.assertEqual(Promise.least(EMPTY).stage, Stage(KEYS, ()))
        self.assertEqual(Promise.least(Pipeline.of(KEYS, "user/4; user/6; item/2")).stage.text, "item/2 user/12")

    def test_mixed_keys(self):
        promise = Promise(Stage.of(KEYS, "user"))
        for p in (Pipeline(OTHER), Pipeline.of(OTHER, "user"), Pipeline(Keys(()))):
            check_raises(self, MixedKeys, {}, promise, p)
            check_raises(self, MixedKeys, {}, promise.broken, p)
        other = Promise(Stage.of(OTHER, "user"))
        for call in (lambda: promise <= other, lambda: promise < other, lambda: promise & other, lambda: other <= promise):
            check_raises(self, MixedKeys, {}, call)
        self.assertIs(promise == other, False)

    def test_equal_to_nothing_else(self):
        promise, restorer = Promise(Stage.of(KEYS, "user")), Restorer(Stage.of(KEYS, "user"))
        for thing in (*things(), Stage.of(KEYS, "user"), "user"):
            for own in (promise, restorer):
                self.assertIs(own == thing, False)
                self.assertIs(own != thing, True)
        self.assertIs(promise == restorer, False)
        self.assertIs(restorer == promise, False)

    def test_stages_without_setters(self):
        stage = Stage.of(KEYS, "user")
        for own in (Promise(stage), Restorer(stage)):
            self.assertEqual(own.stage, stage)
            with self.assertRaises(AttributeError):
                own.stage = Stage(KEYS, ())
            self.assertEqual(own.stage, stage)
        self.assertEqual(Promise(stage=stage), Promise(stage))
        self.assertEqual(Restorer(stage=stage), Restorer(Stage.of(KEYS, "user")))
        self.assertNotEqual(Restorer(stage), Restorer(Stage.of(KEYS, "item")))


class PlacesTest(unittest.TestCase):

    def test_against_all_orders(self):
        chosen = random.Random(2)
        for at in range(120):
            keys = KEYSETS[at % 3]
            p, row = random_pipeline(chosen, keys, FIELDS, 3), random_row(chosen, keys, 5, (0, 1, 2, 3))
            orders = plain_reached(p, row)[-1]
            for number in numbers(row):
                with self.subTest((p.text, row, number)):
                    places = {order.index(number) for order in orders}
                    least, greatest = places_of(p, row, number)
                    self.assertEqual(places, set(range(least, greatest + 1)))
                    for place in range(-2, len(row) + 2):
                        if place not in places:
                            check_raises(self, NoPlace, {"place": place}, run_to, p, row, number, place)
                            continue
                        run = run_to(p, row, number, place)
                        self.assertIs(is_run(p, run), True)
                        self.assertEqual((run[0], run[-1][place][0]), (row, number))

    def test_no_record_ahead_of_no_place(self):
        for row in ((), ROW):
            check_raises(self, NoRecord, {"number": 7}, places_of, MIXED, row, 7)
            check_raises(self, NoRecord, {"number": 7}, run_to, MIXED, row, 7, 99)
            check_raises(self, NoRecord, {"number": 7}, run_to, MIXED, row, 7, 0)

    def test_without_stages(self):
        for text in ("", "-; -"):
            p = Pipeline.of(KEYS, text)
            for at, (number, _) in enumerate(ROW):
                self.assertEqual(places_of(p, ROW, number), (at, at))
                self.assertEqual(run_to(p, ROW, number, at), (ROW,) * (len(p) + 1))
                check_raises(self, NoPlace, {"place": at + 1}, run_to, p, ROW, number, at + 1)

    def test_many_records_and_stages(self):
        chosen = random.Random(3)
        keys = Keys(("a", "b", "c", "d", "e"))
        p = Pipeline(keys, [chosen.sample(("a/2", "b/3", "c/5", "d", "e/4", "#/6"), 2) for _ in range(12)])
        row = tuple((9 * at, tuple(chosen.randrange(2) for _ in keys.names)) for at in range(24))
        for number, _ in row:
            least, greatest = places_of(p ** 2, row, number)
            for place in (least, (least + greatest) // 2, greatest):
                run = run_to(p ** 2, row, number, place)
                self.assertIs(is_run(p ** 2, run), True)
                self.assertEqual((run[0], run[-1][place][0]), (row, number))
            for place in (least - 1, greatest + 1):
                check_raises(self, NoPlace, {"place": place}, run_to, p, row, number, place)


class RestorerTest(unittest.TestCase):

    def test_by_hand(self):
        row = ((5, (1, 1)), (2, (3, 1)), (4, (2, 2)), (0, (0, 2)))
        restorer = Restorer(Stage.of(KEYS, "user"))
        self.assertEqual(numbers(restorer(row, (0, 1, 0, 1))), (0, 2, 4, 5))
        self.assertEqual(numbers(restorer(row, (1, 0, 0, 1))), (2, 0, 4, 5))
        self.assertEqual(numbers(restorer(row=list(row), turns=[1, 1, 0, 0])), (2, 5, 0, 4))
        self.assertEqual(Restorer(Stage(KEYS, ()))(row, (0,) * 4), ascending(row))
        self.assertEqual(Restorer(Stage.of(KEYS, "#"))(row, (3, 2, 1, 0)), ascending(row)[::-1])
        self.assertEqual(restorer((), ()), ())

    def test_bad_turns(self):
        restorer = Restorer(Stage.of(KEYS, "user"))
        for turns, place in (((0, 0, 0, 0), 3), ((0, 0, 2), 2), ((0, 0), 2), ((0, 0, 1, 0, 0), 4), ((), 0), ((0, 1, 1, 0), 2)):
            check_raises(self, BadTurns, {"place": place}, restorer, ROW, turns)


class LineTest(unittest.TestCase):

    def setUp(self):
        self.user, self.item = Stage.of(KEYS, "user"), Stage.of(KEYS, "item")

    def test_properties(self):
        for text, last, pipeline in (
                ("", None, ""), ("user", None, "user"), ("=user", 0, "user"), ("user; item/2", None, "user; item/2"),
                ("item; =user; item", 1, "user; item"), ("=user; item; =item; user; =#; -", 4, "#; -"), ("=-", 0, "-"),
                ("user; =item", 1, "item"), ("-; =-; -", 1, "-; -")):
            line = Line.of(KEYS, text)
            with self.subTest(text):
                self.assertEqual((line.text, line.last, line.pipeline.text, line.schema), (text, last, pipeline, KEYS))
                self.assertEqual(len(line), len(text.split("; ")) if text else 0)
                self.assertEqual(line.steps, Line(KEYS, line.steps).steps)
                for name in ("schema", "steps", "text", "last", "pipeline"):
                    held = getattr(line, name)
                    with self.assertRaises(AttributeError):
                        setattr(line, name, held)
        line = Line(KEYS, [Restorer(self.user), self.item])
        self.assertEqual(line.steps, (Restorer(self.user), self.item))
        self.assertEqual(line.text, "=user; item")
        self.assertEqual(Line.of(keys=KEYS, text="= user  item;  item ").text, "=item user; item")
        self.assertEqual(Line.of(KEYS, "=; user").text, "=-; user")

    def test_items_are_copied(self):
        items = [self.user, Restorer(self.item)]
        line = Line(keys=KEYS, items=items)
        items.clear()
        self.assertEqual(line.text, "user; =item")

    def test_errors_of_texts_and_items(self):
        check_raises(self, BadField, {"field": "=user"}, Line.of, KEYS, "==user; nobody")
        check_raises(self, BadField, {"field": "user;"}, Line.of, KEYS, "user; user;")
        check_raises(self, NoName, {"name": "nobody"}, Line.of, KEYS, "user; =nobody; user/1")
        for items in ((Stage(OTHER, ()),), (self.user, Restorer(Stage.of(OTHER, "item"))), (Restorer(Stage(Keys(()), ())),)):
            check_raises(self, MixedKeys, {}, Line, KEYS, items)

    def test_call_by_hand(self):
        line = Line.of(KEYS, "item; =user")
        row = ROW[:3]
        self.assertEqual([numbers(own) for own in line(row, ((1, 0, 0), (0, 0, 1)))], [(0, 1, 2), (1, 0, 2), (0, 1, 2)])
        self.assertEqual([numbers(own) for own in line(row, ((1, 0, 0), (1, 0, 0)))], [(0, 1, 2), (1, 0, 2), (2, 0, 1)])
        self.assertEqual(Line(KEYS, ())(row, ()), (row,))
        self.assertEqual(Line(KEYS, ())((), ()), ((),))

    def test_errors_of_calls(self):
        line = Line.of(KEYS, "item; =user")
        row = (ROW[1], ROW[2], ROW[0], ROW[3])
        check_raises(self, Descending, {"number": 0}, line, row, ((9,), ()))
        check_raises(self, Descending, {"number": 2}, line, ROW[::-1], ((), ()))
        check_raises(self, Descending, {"number": 0}, Line(KEYS, ()), row, ())
        check_raises(self, BadTurns, {"place": 2}, line, ROW[:3], ((1, 0, 1), (9,)))
        check_raises(self, BadTurns, {"place": 1}, line, ROW[:3], ((1, 0, 0), (1, 1, 0)))
        check_raises(self, BadTurns, {"place": 3}, line, ROW[:3], ((1, 0, 0), (1, 0, 0, 0)))

    def test_what_comes_out_is_what_the_pipeline_lets_out(self):
        chosen = random.Random(4)
        for at in range(40):
            keys = KEYSETS[at % 3]
            items = [some_stage(chosen, keys) for _ in range(chosen.randrange(4))]
            line = Line(keys, [Restorer(stage) if chosen.random() < .4 else stage for stage in items])
            row = ascending(random_row(chosen, keys, 4, (0, 1, 2)))
            rows = {row}
            for item in line.steps:
                if isinstance(item, Restorer):
                    rows = {out for own in rows for out in outs(item.stage, ascending(own))}
                else:
                    rows = {out for own in rows for out in outs(item, own)}
            with self.subTest((line.text, row)):
                self.assertEqual({numbers(out) for out in rows}, set(plain_reached(line.pipeline, row)[-1]))

    def test_calls_against_the_lanes(self):
        chosen = random.Random(5)
        for at in range(60):
            keys = KEYSETS[at % 3]
            stages = [some_stage(chosen, keys) for _ in range(3)]
            line = Line(keys, [Restorer(stage) if chosen.random() < .5 else stage for stage in stages])
            row = ascending(random_row(chosen, keys, 5, (0, 1, 2)))
            rows, turns = [row], []
            for item, stage in zip(line.steps, stages):
                ahead = ascending(rows[-1]) if isinstance(item, Restorer) else rows[-1]
                out = chosen.choice(list(outs(stage, ahead)))
                self.assertTrue(passes(stage, ahead, out))
                rows.append(out)
                turns.append(turns_of(stage, ahead, out))
            self.assertEqual(line(row, tuple(turns)), tuple(rows))

    def test_put(self):
        line = Line.of(KEYS, "item; user")
        for place, text in ((0, "=user; item; user"), (1, "item; =user; user"), (2, "item; user; =user")):
            self.assertEqual(line.put(place, self.user).text, text)
            self.assertEqual(line.put(place=place, stage=self.user).last, place)
        self.assertEqual(line.text, "item; user")
        self.assertEqual(Line(KEYS, ()).put(0, self.user).text, "=user")
        for place in (-1, 3, 99):
            check_raises(self, NoPlace, {"place": place}, line.put, place, self.user)
            check_raises(self, MixedKeys, {}, line.put, place, Stage.of(OTHER, "user"))

    def test_order(self):
        lines = [Line.of(KEYS, text) for text in ("", "-", "user", "=user", "item; =user", "user; item", "=user; item; user", "item; user")]
        for one, other in product(lines, lines):
            self.assertIs(one <= other, one.pipeline <= other.pipeline)
            self.assertIs(one == other, one.pipeline == other.pipeline)
            self.assertIs(one != other, one.pipeline != other.pipeline)
        self.assertIs(lines[2] == lines[4], True)
        mixed = Line.of(OTHER, "")
        check_raises(self, MixedKeys, {}, lambda: lines[0] <= mixed)
        for thing in (mixed, EMPTY, *things(), "user", lines[2].pipeline):
            self.assertIs(lines[0] == thing, False)
            self.assertIs(lines[2] == thing, False)

    def test_mends(self):
        whole = Promise(self.user)
        for text, places in (
                ("", (0,)), ("user", (0, 1)), ("item", (1,)), ("item; user; user/2", (1, 2, 3)), ("user; item", (2,)),
                ("item; =user; user", (0, 1, 2, 3)), ("item; =item", (2,)), ("=item; user; =user; -", (0, 1, 2, 3, 4)),
                ("=item; user; =item/2; user", (3, 4)), ("=item; user; =user; #", (4,))):
            self.assertEqual(mends(Line.of(KEYS, text), whole), places)
        self.assertEqual(mends(line=Line.of(KEYS, "item"), promise=Promise(Stage(KEYS, ("#",)))), (0, 1))
        check_raises(self, MixedKeys, {}, mends, Line(KEYS, ()), Promise(Stage(OTHER, ())))

    def test_mends_against_put(self):
        chosen = random.Random(6)
        for at in range(80):
            keys = KEYSETS[at % 3]
            items = [some_stage(chosen, keys) for _ in range(chosen.randrange(6))]
            line = Line(keys, [Restorer(stage) if chosen.random() < .3 else stage for stage in items])
            promise = Promise(chosen.choice(items) if items and chosen.random() < .7 else some_stage(chosen, keys))
            good = [place for place in range(len(line) + 1) if promise(line.put(place, promise.stage).pipeline)]
            self.assertEqual(mends(line, promise), tuple(good))


if __name__ == "__main__":
    unittest.main()
