"""[15]: Logs, questions and samples."""

import random
import unittest
from itertools import combinations, permutations, product

from keyspans.edits import forms
from keyspans.errors import BadLog, BadTurns, MissingPart, MixedKeys, NoFit, NoForm, NoName, NoPlace
from keyspans.keys import Keys
from keyspans.lanes import is_row
from keyspans.logs import Logs, best_question, learned, question, sample, why_no_form
from keyspans.pipelines import Pipeline, built
from tests.helpers import (
    check_raises, numbers, pipelines, plain_ahead, plain_reached, plain_span, plain_within, random_pipeline, random_row,
    things)

KEYS = Keys(("item", "user"))
OTHER = Keys(("item", "user"), (("item", "user"),))
P, Q, BOTH = Pipeline.of(KEYS, "user; item"), Pipeline.of(KEYS, "item; user"), Pipeline.of(KEYS, "item user")
ROW = ((0, (1, 1)), (1, (1, 2)), (2, (2, 2)), (3, (2, 1)))
OUT = ROW[1:] + ROW[:1]
FIELDS = ("a", "b", "a/2", "a/4", "a/6", "b/3", "#/2", "#/3", "#")
KEYSETS = tuple(Keys(("a", "b"), tells) for tells in ((), (("a", "b"),), (("b", "a"),)))
THREE = tuple(Keys(("a", "b", "c"), tells) for tells in (
    (), (("a", "b"),), (("b", "a"), ("c", "b")), (("a", "b"), ("a", "c")), (("b", "a"), ("c", "a"))))


def plain_fits(p, log):
    row, out = log
    return numbers(out) in plain_reached(p, row)[-1]


def plain_labels(keys, names):
    singles = [(name,) for name in names]
    pairs = [
        pair for pair in permutations(names, 2) if not keys.tells(*pair) and not keys.tells(*pair[::-1])]
    return sorted(singles + pairs)


def plain_asked(form, label):
    """Whether a form fits the question of a label, by the rule of the document."""
    if any(plain_span(form, name) is None for name in label):
        return False
    return len(label) == 1 or not plain_ahead(form, *label)


def closed_sets(keys):
    """All sets of names such that each name told by one of them is one of them."""
    for many in range(len(keys) + 1):
        for names in combinations(keys.names, many):
            if all(told in names for name in names for told in keys.told(name)):
                yield names


def partial_orders(names):
    """All sets of pairs in which none is ahead of itself, and what is ahead of a second one is ahead of what this is."""
    found = [frozenset()]
    for name in names:
        others = [own for own in names if own < name]
        wider = []
        for order in found:
            for below in (frozenset(own) for many in range(len(others) + 1) for own in combinations(others, many)):
                for above in (frozenset(own) for many in range(len(others) + 1) for own in combinations(others, many)):
                    more = order | {(own, name) for own in below} | {(name, own) for own in above}
                    if all(one != other for one, other in more) and all(
                            (f, i) in more for f, g in more for h, i in more if g == h):
                        wider.append(more)
        found = wider
    return found


def forms_of(keys, names):
    return [form for form in forms(keys) if set(form.parts) <= set(names)]


def some_logs(chosen, keys, many, records):
    """LOGs that a Pipeline lets come, or, one in four times, of mixed rows."""
    p = random_pipeline(chosen, keys, keys.names + (keys.names[0],), 3)
    logs = []
    for _ in range(many):
        row = random_row(chosen, keys, records, (0, 1, 2))
        orders = plain_reached(p, row)[-1] if chosen.random() < .75 else list(permutations(numbers(row)))
        by_number = {record[0]: record for record in row}
        logs.append((row, tuple(by_number[number] for number in chosen.choice(orders))))
    return tuple(logs)


class LogsTest(unittest.TestCase):

    def test_what_it_keeps(self):
        one, two = (ROW, OUT), (ROW[:2], ROW[1::-1])
        logs = Logs(KEYS, (one, two, one, two, (ROW, ROW)))
        self.assertEqual((len(logs), logs[0], logs[1], logs[2], logs.schema), (3, one, two, (ROW, ROW), KEYS))
        for k in (-1, 3, 10 ** 9):
            check_raises(self, NoPlace, {"place": k}, lambda: logs[k])
            check_raises(self, NoPlace, {"place": k}, logs.turned, k)
        self.assertIs(one in logs, True)
        self.assertIs([list(ROW), [[number, list(values)] for number, values in OUT]] in logs, True)
        self.assertIs((OUT, ROW) in logs, False)
        self.assertIs(((), ()) in logs, False)
        self.assertIs(((), ()) in Logs(KEYS, (((), ()),)), True)
        with self.assertRaises(AttributeError):
            logs.schema = KEYS
        self.assertRaises(TypeError, iter, logs)

    def test_without_logs(self):
        empty = Logs(KEYS)
        self.assertEqual((len(empty), empty.misfit(P), empty == Logs(keys=KEYS, logs=[])), (0, None, True))
        check_raises(self, NoPlace, {"place": 0}, lambda: empty[0])
        self.assertEqual([form.text for form in empty.least_forms(("item", "user"))], [""])
        self.assertEqual(empty.sure(("item", "user")), ((), ()))
        self.assertEqual([form.text for form in empty.least_forms(())], [""])
        self.assertEqual(empty.sure(()), ((), ()))

    def test_arguments_are_copied(self):
        row = [[1, [1, 1]], [2, [2, 2]]]
        given = [[row, row[::-1]]]
        logs = Logs(KEYS, given)
        row[0][1][0] = 9
        given.clear()
        self.assertEqual(logs[0], (((1, (1, 1)), (2, (2, 2))), ((2, (2, 2)), (1, (1, 1)))))

    def test_bad_logs(self):
        for logs, place in (
                (((ROW, ROW[1:]),), 0), (((ROW, OUT), (ROW, OUT), (ROW[1:], ROW), (ROW[:1], ())), 2), (((ROW, OUT), ((), ROW[:1])), 1),
                (((ROW[:1], ((0, (1, 2)),)),), 0), (((ROW[:1], ROW[1:2]),), 0)):
            check_raises(self, BadLog, {"place": place}, Logs, KEYS, logs)
            check_raises(self, BadLog, {"place": place}, Logs, KEYS, [list(log) for log in logs])

    def test_sum_and_equality(self):
        one, two, three = (ROW, OUT), (ROW, ROW), ((), ())
        self.assertEqual([(Logs(KEYS, (one, two)) + Logs(KEYS, (three, one)))[k] for k in range(3)], [one, two, three])
        self.assertEqual(len(Logs(KEYS, (one, two)) + Logs(KEYS, (three, one))), 3)
        self.assertIs(Logs(KEYS, (one, two)) == Logs(KEYS, [two, one, two]), True)
        self.assertIs(Logs(KEYS, (one, two)) != Logs(KEYS, (two, one)), False)
        self.assertIs(Logs(KEYS, (one,)) == Logs(KEYS, (one, two)), False)
        self.assertIs(Logs(KEYS) == Logs(OTHER), False)
        check_raises(self, MixedKeys, {}, lambda: Logs(KEYS) + Logs(OTHER))
        for thing in (*things(), (one,), one):
            self.assertIs(Logs(KEYS, (one,)) == thing, False)
            self.assertIs(Logs(KEYS) == thing, False)

    def test_sent(self):
        pairs = ((ROW, ((0, 0, 1, 1), (0, 1, 0, 1))), (ROW[:1], ((0,), (0,))), (ROW, ((0, 1, 1, 0), (0, 0, 1, 1))))
        logs = Logs.sent(P, pairs)
        self.assertEqual([logs[k] for k in range(len(logs))], [(row, P(row, turns)) for row, turns in pairs])
        self.assertEqual(logs, Logs.sent(p=P, pairs=[[list(row), [list(own) for own in turns]] for row, turns in pairs]))
        self.assertEqual((logs.misfit(P), logs.schema), (None, KEYS))
        self.assertEqual(len(Logs.sent(P, ())), 0)
        check_raises(self, BadTurns, {"place": 1}, Logs.sent, P, (pairs[0], (ROW, ((0, 0, 1, 1), (0, 1)))))
        check_raises(self, BadTurns, {"place": 2}, Logs.sent, P, ((ROW, ((0, 0, 1, 1), (0, 1, 0, 1), ())),))

    def test_turned(self):
        chosen = random.Random(1)
        for _ in range(40):
            row = random_row(chosen, KEYS, 5, (0, 1, 2))
            out = tuple(chosen.sample(row, len(row)))
            pairs = tuple(
                (one[0], other[0]) for at, one in enumerate(row) for other in row[at + 1:] if out.index(other) < out.index(one))
            self.assertEqual(Logs(KEYS, ((row, out),)).turned(0), pairs)
        self.assertEqual(Logs(KEYS, ((ROW, ROW), (ROW, OUT))).turned(k=0), ())

    def test_misfit(self):
        chosen = random.Random(2)
        misfits = 0
        for at in range(60):
            keys = KEYSETS[at % 3]
            logs = Logs(keys, some_logs(chosen, keys, 4, 4))
            for _ in range(3):
                p = random_pipeline(chosen, keys, FIELDS, 4)
                wrong = [k for k in range(len(logs)) if not plain_fits(p, logs[k])]
                with self.subTest((p.text, logs[0])):
                    self.assertEqual(logs.misfit(p), wrong[0] if wrong else None)
                misfits += bool(wrong)
        self.assertTrue(20 < misfits < 170)
        self.assertIs(Logs(KEYS, (((), ()),)).misfit(Pipeline(KEYS)), None)
        check_raises(self, MixedKeys, {}, Logs(KEYS).misfit, Pipeline(OTHER))

    def test_misfit_of_long_rows(self):
        chosen = random.Random(3)
        row = tuple((at, (chosen.randrange(4), chosen.randrange(4))) for at in range(24))
        p = Pipeline.of(KEYS, "; ".join(["user"] * 6 + ["item"] * 6))
        turns = []
        out = row
        for stage in p.stages:
            lanes = []
            for record in out:
                lane = stage.lane(record)
                lanes.append(lane)
            order = [sorted(set(lanes), key=lanes.index).index(lane) for lane in lanes]
            chosen.shuffle(order)
            turns.append(tuple(order))
            out = Pipeline(KEYS, (stage,))(out, (order,))
        logs = Logs.sent(p, ((row, turns),))
        self.assertEqual((logs.misfit(p), logs.misfit(BOTH), logs.misfit(~p), logs.misfit(Pipeline(KEYS))), (None, None, 0, 0))


class FormsTest(unittest.TestCase):

    def check(self, keys, logs, names):
        fitting = [form for form in forms_of(keys, names) if all(plain_fits(form, logs[k]) for k in range(len(logs)))]
        least = [form.text for form in fitting if not any(plain_within(own, form) and own.text != form.text for own in fitting)]
        made = logs.least_forms(names)
        self.assertIs(type(made), tuple)
        self.assertEqual([form.text for form in made], sorted(least))
        if not fitting:
            check_raises(self, NoFit, {}, logs.sure, names)
            return False
        used = tuple(name for name in names if all(plain_span(form, name) for form in fitting))
        mixed = tuple(
            (f, g) for f, g in permutations(used, 2) if not any(plain_ahead(form, f, g) for form in fitting))
        self.assertEqual(logs.sure(names), (used, tuple(sorted(mixed))))
        return True

    def test_against_all_forms(self):
        chosen = random.Random(4)
        found = []
        for at in range(40):
            keys = (KEYSETS + THREE)[at % 8]
            logs = Logs(keys, some_logs(chosen, keys, chosen.randrange(4), 4))
            for names in closed_sets(keys):
                with self.subTest((keys.text, names)):
                    found.append(self.check(keys, logs, names))
        self.assertGreater(found.count(True), 20)
        self.assertGreater(found.count(False), 20)

    def test_ten_logs_of_five_records(self):
        chosen = random.Random(5)
        keys = Keys(("a", "b", "c", "d", "e"), (("d", "e"),))
        p = Pipeline.of(keys, "a; b; c")
        pairs = []
        for _ in range(10):
            row = random_row(chosen, keys, 5, (0, 1))
            by_number = {record[0]: record for record in row}
            order = chosen.choice(plain_reached(p, row)[-1])
            pairs.append((row, tuple(by_number[number] for number in order)))
        logs = Logs(keys, pairs)
        made = logs.least_forms(("a", "b", "c"))
        self.assertTrue(any(form <= p for form in made))
        self.assertTrue(all(logs.misfit(form) is None for form in made))
        used, mixed = logs.sure(("a", "b", "c"))
        self.assertTrue(all(name in form.parts for form in made for name in used))
        self.assertFalse(any(form.ahead(*pair) for form in made for pair in mixed))

    def test_names(self):
        logs = Logs(KEYS, ((ROW, OUT),))
        for names, name in ((("nobody",), "nobody"), (("#",), "#"), (("item", "other", "user", "x"), "other")):
            check_raises(self, NoName, {"name": name}, logs.least_forms, names)
            check_raises(self, NoName, {"name": name}, logs.sure, names)
        check_raises(self, NoFit, {}, logs.sure, ())
        self.assertEqual(logs.least_forms(names=()), ())
        self.assertEqual(logs.least_forms(names=["item", "user"])[0].text, "user; item")


class QuestionTest(unittest.TestCase):

    def test_each_form_answers_by_the_rule(self):
        for keys in KEYSETS + THREE:
            for label in plain_labels(keys, keys.names):
                row, out = question(keys, label)
                for form in forms(keys):
                    with self.subTest((keys.text, label, form.text)):
                        self.assertIs(plain_fits(form, (row, out)), plain_asked(form, label))
                        self.assertIs(Logs(keys, ((row, out),)).misfit(form) is None, plain_asked(form, label))

    def test_the_rows(self):
        keys = Keys(("a", "b", "c", "d", "e"), (("c", "a"), ("c", "b"), ("d", "a"), ("a", "e")))
        for label in plain_labels(keys, keys.names):
            row, out = question(keys, label)
            self.assertTrue(is_row(keys, row) and is_row(keys, out))
            self.assertEqual(numbers(row), tuple(range(2 * len(label))))
            self.assertEqual(numbers(out), (1, 0) if len(label) == 1 else (1, 2, 3, 0))
            columns = dict(zip(keys.names, zip(*[values for _, values in row])))
            for name, column in columns.items():
                self.assertEqual(sorted(set(column), key=column.index), list(range(len(set(column)))))
                asked = [own for own in label if name == own or keys.tells(name, own)]
                if len(label) == 1:
                    self.assertEqual(column, (0, 1) if asked else (0, 0))
                elif len(asked) == 2:
                    self.assertEqual(column, (0, 1, 2, 3))
                else:
                    kinds = {label[0]: (0, 0, 1, 1), label[1]: (0, 1, 1, 0)}
                    self.assertEqual(column, kinds[asked[0]] if asked else (0,) * 4)

    def test_by_hand(self):
        self.assertEqual(question(OTHER, ("user",)), (((0, (0, 0)), (1, (1, 1))), ((1, (1, 1)), (0, (0, 0)))))
        self.assertEqual(question(OTHER, ("item",)), (((0, (0, 0)), (1, (1, 0))), ((1, (1, 0)), (0, (0, 0)))))
        self.assertEqual(question(keys=KEYS, label=["user", "item"]), question(KEYS, ("user", "item")))
        for label, name in ((("nobody",), "nobody"), (("#",), "#"), (("item", "x"), "x"), (("y", "x"), "y")):
            check_raises(self, NoName, {"name": name}, question, KEYS, label)


class LearnedTest(unittest.TestCase):

    def check(self, keys, names, labels, by_answers):
        form = by_answers.get(labels)
        why = why_no_form(keys, names, labels)
        if form is not None:
            self.assertIs(why, None)
            self.assertEqual(learned(keys, names, labels).text, form)
            return
        check_raises(self, NoForm, {}, learned, keys, names, labels)
        self.assertEqual(why, tuple(sorted(set(why))))
        self.assertTrue(len(why) <= 4 and set(why) <= set(plain_labels(keys, names)))
        mine = {label for label in why if label in labels}
        self.assertFalse(any({label for label in why if label in answers} == mine for answers in by_answers))

    def answers(self, keys, names):
        labels = plain_labels(keys, names)
        return {tuple(label for label in labels if plain_asked(form, label)): form.text for form in forms_of(keys, names)}

    def test_all_sets_of_labels(self):
        for keys in KEYSETS + THREE:
            for names in closed_sets(keys):
                labels = plain_labels(keys, names)
                by_answers = self.answers(keys, names)
                self.assertEqual(len(by_answers), len(forms_of(keys, names)))
                for many in range(len(labels) + 1):
                    for chosen in combinations(labels, many):
                        self.check(keys, names, chosen, by_answers)

    def test_some_sets_of_labels_of_four_names(self):
        chosen = random.Random(6)
        names = ("a", "b", "c", "d")
        for tells in ((), (("a", "b"),), (("a", "b"), ("c", "d")), (("a", "b"), ("b", "c")), (("d", "a"), ("d", "b"))):
            keys = Keys(names, tells)
            labels, by_answers = plain_labels(keys, names), self.answers(keys, names)
            near = list(by_answers)
            for _ in range(150):
                turned = chosen.sample(labels, chosen.choice((0, 1, 1, 2, 3, 9)) % len(labels))
                start = chosen.choice(near)
                self.check(keys, names, tuple(label for label in labels if (label in start) != (label in turned)), by_answers)

    def test_all_orders_of_four_names(self):
        """What is ahead of what is any partial order; it is that of a form unless two pairs stand apart from one another."""
        names = ("a", "b", "c", "d")
        self.assertEqual(len(partial_orders(names)), 219)
        for tells in ((), (("a", "b"),)):
            keys = Keys(names, tells)
            labels, by_answers = plain_labels(keys, names), self.answers(keys, names)
            barred = 0
            for own in partial_orders(names):
                answers = tuple(label for label in labels if label not in own)
                self.check(keys, names, answers, by_answers)
                barred += answers not in by_answers
            # Two pairs can stand apart in twelve ways.
            self.assertTrue(barred == 12 or tells)
        apart = tuple(pair for pair in plain_labels(Keys(names), names) if pair not in (("a", "b"), ("c", "d")))
        self.assertEqual(why_no_form(Keys(names), names, apart), (("a", "b"), ("a", "d"), ("c", "b"), ("c", "d")))

    def test_five_names(self):
        keys = Keys(("a", "b", "c", "d", "e"), (("e", "d"),))
        for text in ("", "a; b; c; e", "a b; b c; d", "a b c e", "d; a; b; c d; e"):
            form = Pipeline.of(keys, text).plain
            labels = tuple(label for label in plain_labels(keys, keys.names) if plain_asked(form, label))
            self.assertEqual(learned(keys, keys.names, labels).text, form.text)
            self.assertIs(why_no_form(keys, keys.names, labels), None)
            for label in plain_labels(keys, keys.names):
                changed = tuple(own for own in plain_labels(keys, keys.names) if (own in labels) != (own == label))
                why = why_no_form(keys, keys.names, changed)
                if why is None:
                    made = learned(keys, keys.names, changed)
                    self.assertEqual(tuple(own for own in plain_labels(keys, keys.names) if plain_asked(made, own)), changed)
                else:
                    self.assertTrue(label in why and len(why) <= 4)

    def test_errors(self):
        check_raises(self, NoName, {"name": "nobody"}, learned, KEYS, ("item", "nobody"), (("item", "user"),))
        check_raises(self, NoName, {"name": "#"}, why_no_form, KEYS, ("#", "item"), ())
        check_raises(self, NoForm, {}, learned, KEYS, ("item", "user"), (("item", "user"),))
        check_raises(self, NoForm, {}, learned, OTHER, ("item", "user"), [["item"]])
        self.assertEqual(learned(keys=OTHER, names=["item", "user"], labels=[["item"], ["user"]]).text, "item")
        self.assertEqual(learned(KEYS, (), ()).text, "")
        self.assertIs(why_no_form(keys=KEYS, names=(), labels=()), None)
        self.assertEqual(why_no_form(OTHER, ("item", "user"), (("item",),)), (("item",), ("user",)))


class BestQuestionTest(unittest.TestCase):

    def plain_best(self, keys, names, group):
        best = []
        for label in plain_labels(keys, names):
            fitting = sum(plain_asked(form, label) for form in group)
            best.append((max(fitting, len(group) - fitting), label))
        return min(best)[1]

    def test_against_all_labels(self):
        chosen = random.Random(7)
        for at in range(120):
            keys = (KEYSETS + THREE)[at % 8]
            for names in closed_sets(keys):
                group = tuple(chosen.choice(forms_of(keys, names)) for _ in range(chosen.randrange(6)))
                alike = len({form.text for form in group}) < 2
                expected = None if alike else self.plain_best(keys, names, group)
                self.assertEqual(best_question(keys, names, group), expected)

    def test_edges(self):
        self.assertIs(best_question(KEYS, (), ()), None)
        self.assertIs(best_question(KEYS, ("item", "user"), ()), None)
        self.assertIs(best_question(KEYS, (), (Pipeline(KEYS), Pipeline(KEYS))), None)
        self.assertEqual(best_question(keys=KEYS, names=["item"], forms=[Pipeline(KEYS), Pipeline.of(KEYS, "item")]), ("item",))
        check_raises(self, MixedKeys, {}, best_question, KEYS, ("nobody",), (P, Pipeline(OTHER)))
        check_raises(self, MixedKeys, {}, best_question, OTHER, (), (P, P))
        check_raises(self, NoName, {"name": "nobody"}, best_question, KEYS, ("item", "nobody"), ())
        # Each place counts.
        self.assertEqual(best_question(KEYS, ("item", "user"), (P, P, P, Q, Pipeline(KEYS))), ("item", "user"))
        self.assertEqual(best_question(KEYS, ("item", "user"), (Q, Q, Q, P, Pipeline(KEYS))), ("user", "item"))

    def test_all_forms_of_five_names(self):
        keys = Keys(("a", "b", "c", "d", "e"))
        chosen = random.Random(8)
        group = []
        for _ in range(2000):
            text = "; ".join(" ".join(chosen.sample(keys.names, chosen.randrange(1, 4))) for _ in range(4))
            group.append(Pipeline.of(keys, text).plain)
        self.assertEqual(best_question(keys, keys.names, group), self.plain_best(keys, keys.names, group))


class SampleTest(unittest.TestCase):

    def check(self, p, parts, others):
        logs = sample(p, parts)
        many = len(p.parts)
        self.assertIs(type(logs), Logs)
        self.assertEqual(logs.schema, p.schema)
        self.assertLessEqual(len(logs), many * many)
        for k in range(len(logs)):
            self.assertIn(len(logs[k][0]), (2, 4))
            self.assertTrue(is_row(p.schema, logs[k][0]) and is_row(p.schema, logs[k][1]))
        self.assertIs(logs.misfit(p), None)
        answers = []
        for q in others:
            if set(q.parts) <= set(parts):
                with self.subTest((p.text, q.text, parts)):
                    answers.append(logs.misfit(q) is None)
                    self.assertIs(answers[-1], plain_within(p, q))
                    self.assertIs(answers[-1], all(plain_fits(q, logs[k]) for k in range(len(logs))))
        return answers

    def test_against_pipelines_of_these_parts(self):
        chosen = random.Random(9)
        answers = []
        for at in range(60):
            keys = KEYSETS[at % 3]
            p = random_pipeline(chosen, keys, ("a", "b", "a/2", "a/4", "b/3", "a/6", "#/2", "#/3"), 3)
            more = chosen.sample(("#", "b/5", "#/5", "a/9"), 2)
            parts = tuple(sorted({*p.parts, *chosen.choice(((), more))}))[:8]
            if not set(p.parts) <= set(parts) or not parts:
                continue
            fields = parts * 2
            near = (p >> p, ~p, p.plain, Pipeline(keys, (parts,)), Pipeline(keys, (parts,) * 2))
            others = [random_pipeline(chosen, keys, fields, 4) for _ in range(8)] + list(near)
            answers.extend(self.check(p, parts, others))
        for answer in (True, False):
            self.assertGreater(answers.count(answer), 60)

    def test_small_pipelines(self):
        for keys in (Keys(("a", "b")), Keys(("a", "b"), (("a", "b"),))):
            for choices, parts in ((("a", "b", "a b"), ("a", "b")), (("a", "a/2", "#/2"), ("#/2", "a", "a/2", "b")), (("b/2", "b/3", "#"), ("#", "a", "b", "b/2", "b/3"))):
                small = pipelines(keys, choices, 2)
                for p in small:
                    self.check(p, parts, small)

    def test_eight_parts_and_many_stages(self):
        chosen = random.Random(10)
        keys = Keys(("a", "b", "c", "d", "e"), (("a", "b"), ("c", "d")))
        parts = ("#/2", "a", "b", "b/4", "b/2", "c", "d", "e/9")
        for _ in range(4):
            p = Pipeline(keys, [chosen.sample(("#/2", "b/4", "e/9", "d", "a"), chosen.choice((1, 2))) for _ in range(12)])
            used = tuple(sorted({*parts, *p.parts}))
            others = [Pipeline(keys, [chosen.sample(("#/2", "b/4", "e/9", "d", "a", "c"), 2) for _ in range(12)]) for _ in range(3)]
            if len(used) <= 9:
                self.check(p, used, [*others, p >> others[0], ~p, p.plain])
        apart = Pipeline.of(keys, "#/2; b/4; d; e/9; a; c")
        self.check(apart, ("#/2", "a", "b", "b/2", "b/4", "c", "d", "e/3", "e/9"), [apart, ~apart, apart ** 2, Pipeline.of(keys, "#/2; b/4; d; e/9; a c")])

    def test_edges_and_errors(self):
        self.assertEqual(len(sample(Pipeline(KEYS), ())), 0)
        self.assertEqual(len(sample(Pipeline.of(KEYS, "-; -"), ("item", "user/2"))), 0)
        self.assertEqual(len(sample(p=Pipeline.of(Keys(()), "#"), parts=["#"])), 1)
        self.check(Pipeline.of(KEYS, "#"), ("#", "item", "user"), (P, Q, BOTH, Pipeline.of(KEYS, "#; #"), Pipeline.of(KEYS, "item; #")))
        check_raises(self, NoName, {"name": "nobody"}, sample, P, ("item", "nobody/2", "x"))
        check_raises(self, NoName, {"name": "nobody"}, sample, P, ("#", "nobody"))
        check_raises(self, MissingPart, {"part": "item"}, sample, P, ())
        check_raises(self, MissingPart, {"part": "user"}, sample, P, ("item", "user/2"))
        check_raises(self, MissingPart, {"part": "user/3"}, sample, Pipeline.of(KEYS, "user/12"), ("user/2", "user/4"))

    def test_the_forms_that_fit_are_those_above(self):
        for keys in THREE:
            for p in forms(keys):
                logs = sample(p, keys.names)
                made = [form.text for form in logs.least_forms(keys.names)]
                self.assertEqual(made, [p.text])
                self.assertEqual(logs.sure(keys.names)[0], p.parts)


class LinkTest(unittest.TestCase):

    def test_learned_is_built(self):
        self.assertEqual(
            learned(KEYS, ("item", "user"), (("item",), ("item", "user"), ("user",))).text,
            built(KEYS, ("item", "user"), (("user", "item"),)).text)
        for one, other in product(forms(KEYS), repeat=2):
            labels = plain_labels(KEYS, KEYS.names)
            same = [plain_asked(one, label) for label in labels] == [plain_asked(other, label) for label in labels]
            self.assertIs(same, one.text == other.text)


if __name__ == "__main__":
    unittest.main()
