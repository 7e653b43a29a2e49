"""[8]: RUNs, and how they are carried from one Pipeline to another."""

import random
import unittest

from keyspans.carry import carried, filled, is_run, laid, only, run_of, together, turns_of_run, why_no_run
from keyspans.errors import BadField, BadRun, BadTurns, MixedKeys, NoName, NotWithin
from keyspans.keys import Keys
from keyspans.lanes import crossed, is_row, lanes, passes, turns_of
from keyspans.pipelines import Pipeline
from keyspans.stages import Stage
from tests.helpers import (
    check_raises, numbers, pipelines, plain_crossed, plain_has, plain_parts, plain_span, plain_within, random_pipeline,
    random_row, things)

KEYS = Keys(("item", "user"))
OTHER = Keys(("item", "user"), (("item", "user"),))
EMPTY = Pipeline(KEYS)
FIELDS = ("a", "b", "a/2", "a/4", "a/6", "a/9", "b/3", "b/10", "#/2", "#/3")
ONE, TWO, THREE = (1, (0, 1)), (2, (0, 2)), (3, (5, 1))


def random_run(chosen, p, row):
    """The rows of a RUN, each made by an order of the lanes that is chosen at random."""
    turns = []
    for stage in p.stages:
        order = [at for at, lane in enumerate(lanes(stage, row)) for _ in lane]
        chosen.shuffle(order)
        turns.append(tuple(order))
        row = Pipeline(p.schema, (stage,))(row, (tuple(order),))
    return tuple(turns)


def many_runs(seed, many=150):
    """Pipelines with a RUN of each, and the TURNS of this, the same in each run of the tests."""
    chosen = random.Random(seed)
    for at in range(many):
        keys = (Keys(("a", "b")), Keys(("a", "b"), (("a", "b"),)), Keys(("a", "b"), (("b", "a"),)))[at % 3]
        p = random_pipeline(chosen, keys, FIELDS + ("#",), 4)
        row = random_row(chosen, keys, 6, (0, 1, 2, 4, 6, 12, -3))
        turns = random_run(chosen, p, row)
        yield p, run_of(p, row, turns), turns


def plain_run(p, rows):
    """Whether rows are a RUN of p, by its definition."""
    return len(rows) == len(p) + 1 and all(
        sorted(rows[at]) == sorted(rows[at + 1]) and not plain_crossed(p.schema, stage, rows[at], rows[at + 1])
        for at, stage in enumerate(p.stages))


class RunsTest(unittest.TestCase):

    def test_runs(self):
        p = Pipeline.of(KEYS, "user; item")
        self.assertIs(is_run(p, ((ONE, TWO), (TWO, ONE), (TWO, ONE))), True)
        self.assertIs(is_run(p, ((ONE, TWO), (TWO, ONE), (ONE, TWO))), False)
        self.assertIs(is_run(p, ((), (), ())), True)
        self.assertIs(is_run(EMPTY, ((),)), True)
        self.assertIs(is_run(EMPTY, ((ONE, THREE, TWO),)), True)
        self.assertIs(is_run(EMPTY, ()), False)
        self.assertIs(is_run(EMPTY, ((), ())), False)
        self.assertIs(is_run(p, ((ONE,),) * 3), True)
        self.assertIs(is_run(Pipeline.of(KEYS, "-; -"), ((ONE, TWO),) * 3), True)
        self.assertIs(is_run(Pipeline.of(KEYS, "-"), ((ONE, TWO), (TWO, ONE))), False)
        self.assertIs(is_run(Pipeline.of(KEYS, "#"), ((ONE, TWO), (TWO, ONE))), True)
        great = 10 ** 101
        self.assertIs(is_run(p, (((great, (-great, great)),),) * 3), True)
        for p, run, _ in many_runs(1):
            self.assertIs(is_run(p, run), True)
            self.assertTrue(plain_run(p, run))

    def test_no_runs(self):
        p = Pipeline.of(KEYS, "user; item")
        run = ((ONE, TWO), (TWO, ONE), (TWO, ONE))
        for thing in (
                run[:2], run + run[:1], (), [*run], ([*run[0]], *run[1:]), (*run[:2], [*run[2]]),
                (([*ONE], TWO), *run[1:]), (((1, [0, 1]), TWO), *run[1:]), (*run[:2], ((2, (0, 2)), (True, (0, 1)))),
                (*run[:2], ((2, (0, 2)), (1, (False, 1)))), (*run[:2], (TWO,)), (*run[:2], (TWO, ONE, THREE)), (*run[:2], None),
                (*run[:2], (TWO, ONE, ONE)), (*run[:2], (TWO, (1, (0, 7)))), (*run[:2], (TWO, (1, (0, 1, 1)))), (run,), (run,) * 3,
                ((ONE, ONE),) * 3, (((-1, (0, 1)),),) * 3, (((0, (0, "1")),),) * 3, (ONE,) * 3, ("abc",) * 3, "abc", 3, (True,) * 3):
            with self.subTest(repr(thing)):
                self.assertIs(is_run(p, thing), False)
        unlawful = ((1, (0, 1)), (2, (0, 2)))
        self.assertIs(is_run(Pipeline(OTHER), (unlawful,)), False)
        self.assertIs(is_run(EMPTY, (unlawful,)), True)
        three = Keys(("a", "b", "c"))
        for thing in things():
            for text in ("a", "a; b", "-"):
                with self.subTest((repr(thing), text)):
                    self.assertIs(is_run(Pipeline.of(three, text), thing), False)
            self.assertIs(is_run(Pipeline(three), thing), thing == ((),))

    def test_objects_that_are_no_runs(self):
        p = Pipeline.of(KEYS, "user")
        for thing in (p, (p, p), ((p,), (p,)), (Stage(KEYS, ()),) * 2, KEYS, (((1, p),),) * 2, ((p.schema,),) * 2):
            self.assertIs(is_run(p, thing), False)

    def test_why_no_run(self):
        p = Pipeline.of(KEYS, "user; item")
        row = (ONE, TWO, THREE)
        for rows, why in (
                ((), (0, ())), ((row,), (1, ())), ((row, row), (2, ())), ((row,) * 4, (3, ())), ((row,) * 6, (3, ())), ((row,) * 3, None),
                ((row, (THREE, ONE, TWO), row), (1, (1, 3))), ((row, (THREE, ONE, TWO)), (1, (1, 3))),
                ((row, row, (TWO, ONE, THREE)), (2, (1, 2))), ((row, row, (THREE, TWO, ONE), ()), (2, (1, 2))),
                ((row, (ONE, TWO), row), (1, ())), ((row, row, (TWO, ONE)), (2, ())), ((row, row, (TWO, ONE, (3, (5, 2)))), (2, ())),
                ((row, (TWO, THREE, ONE), (TWO, THREE, ONE), row), (1, (1, 3))), ((row, row, row, ()), (3, ())),
                (((), (ONE,), ()), (1, ())), ((row, (ONE,), (ONE,)), (1, ())), ((row, row, (TWO, ONE), row), (2, ())),
                (((), (), ()), None), (((), ()), (2, ()))):
            with self.subTest(rows):
                self.assertEqual(why_no_run(p, rows), why)
        self.assertEqual(why_no_run(EMPTY, ()), (0, ()))
        self.assertIs(why_no_run(EMPTY, (row,)), None)
        self.assertEqual(why_no_run(EMPTY, (row, row)), (1, ()))

    def test_why_no_run_of_changed_runs(self):
        chosen = random.Random(2)
        wrong = 0
        for p, run, _ in many_runs(3):
            self.assertIs(why_no_run(p, run), None)
            rows = [list(row) for row in run]
            chosen.shuffle(rows[chosen.randrange(len(rows))])
            rows = tuple(tuple(row) for row in rows)
            faults = [
                (at + 1, plain_crossed(p.schema, stage, rows[at], rows[at + 1])[0]) for at, stage in enumerate(p.stages)
                if plain_crossed(p.schema, stage, rows[at], rows[at + 1])]
            wrong += len(faults) > 0
            with self.subTest((p.text, rows)):
                self.assertEqual(why_no_run(p, rows), faults[0] if faults else None)
                self.assertIs(is_run(p, rows), faults == [])
                if faults:
                    at = faults[0][0]
                    self.assertEqual(why_no_run(p, rows)[1], crossed(p[at - 1], rows[at - 1], rows[at]))
                    check_raises(self, BadRun, {"place": at}, turns_of_run, p, rows)
                    check_raises(self, BadRun, {"place": at}, carried, p, p, rows)
        self.assertGreater(wrong, 20)

    def test_run_of_and_turns_of_run(self):
        for p, run, turns in many_runs(4):
            with self.subTest((p.text, run)):
                self.assertEqual(run_of(p, run[0], turns), run)
                self.assertEqual(p(run[0], turns), run[-1])
                self.assertEqual(turns_of_run(p, run), turns)
                self.assertEqual(turns_of_run(p, run), tuple(
                    turns_of(stage, run[at], run[at + 1]) for at, stage in enumerate(p.stages)))
        self.assertEqual(run_of(EMPTY, (ONE,), ()), ((ONE,),))
        self.assertEqual(turns_of_run(EMPTY, ((ONE,),)), ())
        self.assertEqual(turns_of_run(Pipeline.of(KEYS, "-; #"), ((ONE, TWO), (ONE, TWO), (TWO, ONE))), ((0, 0), (1, 0)))

    def test_wrong_turns(self):
        p = Pipeline.of(KEYS, "user; item")
        row = (ONE, TWO, THREE)
        for turns, place in (((), 0), (((0, 1, 0),), 1), (((0, 1, 0), (0, 1, 1)), 1), (((0, 1, 0), (0, 0, 1), ()), 2), (((0,), ()), 0)):
            with self.subTest(turns):
                check_raises(self, BadTurns, {"place": place}, run_of, p, row, turns)

    def test_bad_runs(self):
        p = Pipeline.of(KEYS, "user; item")
        row = (ONE, TWO, THREE)
        for run, place in (
                ((), 0), ((row,), 1), ((row, row), 2), ((row,) * 4, 3), ((row,) * 9, 3), ((row, (THREE, ONE, TWO), row), 1),
                ((row, row, (TWO, ONE, THREE), row), 2), ((row, (ONE,), (ONE,)), 1), ((row, (THREE, ONE, TWO)), 1)):
            with self.subTest(run):
                check_raises(self, BadRun, {"place": place}, turns_of_run, p, run)
                check_raises(self, BadRun, {"place": place}, carried, p, p, run)

    def test_only(self):
        run = ((ONE, TWO, THREE), (THREE, ONE, TWO), (TWO, THREE, ONE))
        self.assertEqual(only(run, (1, 3)), ((ONE, THREE), (THREE, ONE), (THREE, ONE)))
        self.assertEqual(only(run, (1, 2, 3, 4)), run)
        self.assertEqual(only(run, (2, 7)), ((TWO,),) * 3)
        # Numbers that nobody has.
        self.assertEqual(only(run, (0, 4, 10 ** 100)), ((), (), ()))
        self.assertEqual(only(run, ()), ((), (), ()))
        self.assertEqual(only((), (1,)), ())
        self.assertEqual(only([[[1, [0, 1]]]], [1]), ((ONE,),))

    def test_what_is_left_is_a_run(self):
        chosen = random.Random(5)
        for p, run, _ in many_runs(6):
            there = sorted(numbers(run[0]))
            left = tuple(sorted(chosen.sample(there, chosen.randrange(len(there) + 1))))
            with self.subTest((p.text, run, left)):
                self.assertTrue(is_run(p, only(run, left)))
                self.assertEqual(sorted(numbers(only(run, left)[-1])), list(left))


class FilledTest(unittest.TestCase):

    def test_examples(self):
        keys = Keys(("item", "shop", "user"), (("shop", "item"),))
        for text, full in (
                ("", ""), ("-", "-"), ("user; -; user", "user; user; user"), ("user; -; item", "user; -; item"), ("-; -", "-; -"),
                ("user; item; user/2; item", "user; item user/2; item user/2; item"), ("shop; user; item", "shop; item user; item"),
                ("item; user; shop", "item; item user; shop"), ("#; user; #", "#; #; #"), ("#; -; user", "#; user; user"),
                ("user/4; user/9; user/6", "user/4; user/18; user/6"), ("user; -; user/4; -", "user; user/4; user/4; -")):
            with self.subTest(text):
                self.assertEqual(filled(Pipeline.of(keys, text)).text, full)

    def test_each_stage_has_the_parts_whose_span_holds_its_place(self):
        for p, _, _ in many_runs(7):
            full = filled(p)
            self.assertEqual(len(full), len(p))
            self.assertEqual(full, p)
            self.assertEqual(full.schema, p.schema)
            for part in {*plain_parts(p), "a", "b", "#", "a/8", "a/5", "b/2", "#/4"}:
                first, last = plain_span(p, part) or (1, 0)
                with self.subTest((p.text, part)):
                    self.assertEqual(
                        [plain_has(stage, part) for stage in full.stages], [first <= at <= last for at in range(len(p))])


class LaidTest(unittest.TestCase):

    def test_places(self):
        for one, other, places in (
                ("", "", ()), ("", "user", ()), ("user", "", None), ("-", "", (0,)), ("-; -; -", "", (0, 0, 0)), ("-", "user; item", (0,)),
                ("-; item; -; -", "user; item", (0, 1, 1, 1)), ("user; -; item", "user; item", (0, 0, 1)), ("item; user", "user; item", None),
                ("user; user/2; user", "user", (0, 0, 0)), ("user", "user/2", None), ("user/2", "-; user", (1,)),
                ("user; item", "user; -; item; user; item", (0, 2)), ("item; user", "user; item; user", (1, 1)),
                ("item user", "user; item; user", (1,)), ("item; item user; user", "user; item; user", (1, 1, 1)),
                ("#/2; #/3", "#/6", (0, 0)), ("#/6", "#/2; #/3", None)):
            with self.subTest((one, other)):
                self.assertEqual(laid(Pipeline.of(KEYS, one), Pipeline.of(KEYS, other)), places)

    def test_against_the_words(self):
        chosen = random.Random(8)
        without = 0
        for p, _, _ in many_runs(9):
            q = random_pipeline(chosen, p.schema, FIELDS, 4)
            for one, other in ((p, q), (q, p), (p, q >> p), (p, p >> q), (p, ~p), (p ** 2, p), (p, p.plain), (p.plain, p)):
                places, place = [], 0
                for stage in one.stages:
                    if place is not None and len(stage) > 0:
                        place = next((at for at in range(place, len(other)) if stage <= filled(other)[at]), None)
                    places.append(place)
                with self.subTest((one.text, other.text)):
                    self.assertEqual(laid(one, other), None if None in places else tuple(places))
                    self.assertIs(laid(one, other) is None, not plain_within(one, other))
                without += None in places
        self.assertGreater(without, 100)

    def test_mixed_keys(self):
        for q in (Pipeline(OTHER), Pipeline.of(OTHER, "item user"), Pipeline(Keys(()))):
            for p in (EMPTY, Pipeline.of(KEYS, "user"), Pipeline.of(KEYS, "-; item")):
                check_raises(self, MixedKeys, {}, laid, p, q)
                check_raises(self, MixedKeys, {}, laid, q, p)
                # Ahead of NotWithin and of BadRun.
                check_raises(self, MixedKeys, {}, carried, p, q, ())
                check_raises(self, MixedKeys, {}, carried, q, p, ((ONE,), (TWO,)))


class CarriedTest(unittest.TestCase):

    def test_by_hand(self):
        p, q = Pipeline.of(KEYS, "item user"), Pipeline.of(KEYS, "user; item; user")
        run = ((ONE, TWO, THREE), (THREE, TWO, ONE))
        self.assertEqual(q.open_at(1), ("user",))
        # RECORDs of one user stay as they stand: ahead of the place of the stage 1 3, behind it 3 1.
        self.assertEqual(carried(p, q, run), ((ONE, TWO, THREE), (ONE, THREE, TWO), (THREE, ONE, TWO), (THREE, TWO, ONE)))
        self.assertEqual(carried(p, Pipeline.of(KEYS, "-; item user; -"), run), (run[0], run[0], run[1], run[1]))
        self.assertEqual(carried(EMPTY, q, (run[0],)), (run[0], (ONE, THREE, TWO), (ONE, THREE, TWO), run[0]))
        self.assertEqual(carried(EMPTY, EMPTY, (run[0],)), (run[0],))
        self.assertEqual(carried(Pipeline.of(KEYS, "-; -"), EMPTY, (run[0],) * 3), (run[0],))
        self.assertEqual(carried(p, q, ((), ())), ((),) * 4)

    def test_sorted_by_one_part_behind_the_other(self):
        p, q = Pipeline.of(KEYS, "-"), Pipeline.of(KEYS, "item/4 user; -; item/2 user")
        row = tuple(enumerate(((3, 1), (2, 2), (1, 2), (0, 1), (5, 1))))
        self.assertEqual(q.open_at(1), ("item/2", "user"))
        # By item/2 first, then by user, each time the rest as it stands.
        self.assertEqual([numbers(between) for between in carried(p, q, (row, row))], [
            (0, 1, 2, 3, 4), (3, 0, 4, 1, 2), (3, 0, 4, 1, 2), (0, 1, 2, 3, 4)])

    def test_a_run_of_the_other_one_with_the_same_ends(self):
        chosen = random.Random(11)
        for p, run, _ in many_runs(12):
            q = random_pipeline(chosen, p.schema, FIELDS, 4)
            for other in (p, q, p >> q, q >> p, p.plain, filled(p), p ** 3, ~p):
                if not plain_within(p, other):
                    check_raises(self, NotWithin, {}, carried, p, other, run)
                    check_raises(self, NotWithin, {}, carried, p, other, ())
                    continue
                made = carried(p, other, run)
                with self.subTest((p.text, other.text, run)):
                    self.assertTrue(plain_run(other, made))
                    self.assertTrue(is_run(other, made))
                    self.assertEqual((made[0], made[-1]), (run[0], run[-1]))
                    self.assertEqual(made, plain_carried(p, other, run))

    def test_all_small_pipelines(self):
        keys = Keys(("a", "b"))
        row = ((0, (0, 0)), (1, (1, 0)), (2, (1, 1)), (3, (0, 1)))
        small = pipelines(keys, ("", "a", "b", "a b", "#"), 2)
        chosen = random.Random(13)
        for p in small:
            run = run_of(p, row, random_run(chosen, p, row))
            for q in small:
                if p <= q:
                    with self.subTest((p.text, q.text)):
                        self.assertTrue(plain_run(q, carried(p, q, run)))

    def test_errors_in_their_order(self):
        p, q = Pipeline.of(KEYS, "user; item"), Pipeline.of(KEYS, "item; user")
        for run in ((), ((ONE,),), ((ONE,), (TWO,), ()), ((ONE,),) * 3):
            check_raises(self, NotWithin, {}, carried, p, q, run)
        check_raises(self, BadRun, {"place": 0}, carried, p, p, ())
        check_raises(self, BadRun, {"place": 0}, carried, EMPTY, EMPTY, ())
        check_raises(self, BadRun, {"place": 1}, carried, EMPTY, EMPTY, ((ONE,), (ONE,)))


def plain_carried(p, q, run):
    """The rows by the words of the document, with spans and values found by hand."""
    places = laid(p, q)
    rows = []
    for k in range(len(q) + 1):
        behind = [at for at, place in enumerate(places) if place < k]
        row = list(run[behind[-1] + 1] if behind else run[0])
        for part in sorted(plain_parts(q)):
            first, last = plain_span(q, part)
            if first < k <= last:
                name, _, m = part.partition("/")
                at = ("#", *p.schema.names).index(name)
                row.sort(key=lambda record: (record[0], *record[1])[at] % int(m) if m else (record[0], *record[1])[at])
        rows.append(tuple(row))
    return tuple(rows)


class TogetherTest(unittest.TestCase):

    def test_several_runs(self):
        p = Pipeline.of(KEYS, "user; item; user")
        four = (4, (0, 1))
        first = ((ONE, THREE, four),) * 2 + ((THREE, ONE, four),) * 2
        second = ((TWO,),) * 4
        row, out = (ONE, TWO, THREE, four), (THREE, TWO, ONE, four)
        self.assertTrue(is_run(p, first))
        made = together(p, "user", (first, second), row, out)
        self.assertEqual(made, (row, (ONE, THREE, four, TWO), (THREE, ONE, four, TWO), out))
        self.assertTrue(is_run(p, made))
        other = together(p, "user", (second, first), row, out)
        self.assertEqual(other, (row, (TWO, ONE, THREE, four), (TWO, THREE, ONE, four), out))
        self.assertTrue(is_run(p, other))

    def test_one_run(self):
        p = Pipeline.of(KEYS, "user; item; user")
        run = ((ONE, THREE), (ONE, THREE), (THREE, ONE), (THREE, ONE))
        self.assertEqual(together(p, "user", (run,), run[0], run[-1]), run)
        self.assertEqual(together(p, "user/2", [[[]] * 4], [], []), ((),) * 4)
        single = Pipeline.of(KEYS, "item user/2")
        self.assertEqual(together(single, "user/2", (((ONE,), (ONE,)),), (ONE,), (ONE,)), ((ONE,), (ONE,)))
        self.assertEqual(
            together(single, "item", (((ONE,),) * 2, ((THREE,),) * 2), (ONE, THREE), (THREE, ONE)), ((ONE, THREE), (THREE, ONE)))

    def test_a_run_of_all_records(self):
        chosen = random.Random(14)
        for p, run, _ in many_runs(15):
            for part in plain_parts(p):
                if len(p) == 0 or plain_span(p, part) != (0, len(p) - 1):
                    continue
                name, _, m = part.partition("/")
                at = ("#", *p.schema.names).index(name)
                classes = {}
                for record in run[0]:
                    worth = (record[0], *record[1])[at]
                    classes.setdefault(worth % int(m) if m else worth, []).append(record[0])
                runs = tuple(only(run, tuple(sorted(held))) for held in classes.values())
                row = merged(chosen, [one[0] for one in runs])
                out = merged(chosen, [one[-1] for one in runs])
                if not runs:
                    continue
                made = together(p, part, runs, row, out)
                with self.subTest((p.text, part, runs)):
                    self.assertTrue(plain_run(p, made))
                    self.assertEqual((made[0], made[-1]), (row, out))
                    for place in range(1, len(p)):
                        self.assertEqual(made[place], sum([one[place] for one in runs], ()))

    def test_wrong_parts(self):
        p = Pipeline.of(KEYS, "user; item; user/2")
        runs = (((ONE,),) * 4,)
        for part in ("user/6", "", "nobody/6"):
            check_raises(self, BadField, {"field": part}, together, p, part, runs, (ONE,), (ONE,))
            check_raises(self, BadField, {"field": part}, together, EMPTY, part, (), (), ())
        check_raises(self, NoName, {"name": "nobody"}, together, p, "nobody/2", runs, (ONE,), (ONE,))
        check_raises(self, NoName, {"name": "nobody"}, together, EMPTY, "nobody", ((),), (), ())
        for part in ("user", "item", "user/3", "#", "#/2", "item/2", "user/4"):
            with self.subTest(part):
                check_raises(self, NotWithin, {}, together, p, part, runs, (ONE,), (ONE,))
                check_raises(self, NotWithin, {}, together, EMPTY, part, (((ONE,),),), (ONE,), (ONE,))
        # Only the first stage has it, only the last one, only one between.
        for text in ("user; item", "item; user", "item; user; item", "-; user; -", "-"):
            check_raises(self, NotWithin, {}, together, Pipeline.of(KEYS, text), "user", ((),), (ONE,), (ONE,))
        self.assertEqual(together(p, "user/2", runs, (ONE,), (ONE,)), ((ONE,),) * 4)

    def test_wrong_runs(self):
        p = Pipeline.of(KEYS, "user; item; user")
        good = ((ONE,),) * 4
        for runs, place in (
                (((),), 0), ((good, ((TWO,),) * 3), 1), ((good, ((TWO,),) * 5), 1), ((good, ((TWO,),) * 4, ()), 2),
                ((((ONE, THREE), (THREE, ONE), (THREE, ONE), (THREE, ONE)), ()), 0), ((good, (), ()), 1)):
            with self.subTest(runs):
                check_raises(self, BadRun, {"place": place}, together, p, "user", runs, (ONE, TWO), (TWO, ONE))


def merged(chosen, rows):
    """A row of all records in which those of each row keep their order."""
    queues = [list(row) for row in rows]
    made = []
    while any(queues):
        made.append(chosen.choice([queue for queue in queues if queue]).pop(0))
    return tuple(made)


class RowsTest(unittest.TestCase):

    def test_results_are_rows_of_tuples(self):
        p = Pipeline.of(KEYS, "user; item; user")
        run = [[[3, [5, 1]], [1, [0, 1]]]] * 4
        for made in (carried(p, p ** 2, run), only(run, [1, 3]), together(p, "user", [run], run[0], run[0])):
            for row in made:
                self.assertIs(is_row(KEYS, row), True)
        for made in (run_of(p, run[0], [[0, 0], [0, 1], [0, 0]]),):
            self.assertTrue(is_run(p, made))
            self.assertTrue(all(passes(stage, made[at], made[at + 1]) for at, stage in enumerate(p.stages)))


if __name__ == "__main__":
    unittest.main()
