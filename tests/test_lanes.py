"""[1] (a) and [6]: what one Stage lets out of a row."""

import unittest
from itertools import combinations, combinations_with_replacement, permutations, product
from math import comb, factorial

from keyspans.errors import BadTurns, NoPlace
from keyspans.keys import Keys
from keyspans.lanes import (
    costs_of, crossed, exchanges, how_many, lanes, least_stages, next_out, nth, outs, passes, place, pour, row_of, timed,
    turns_of)
from keyspans.stages import Stage
from tests.helpers import check_raises, plain_crossed, plain_lane, plain_lanes, plain_outs, plain_turns

KEYS = Keys(("city", "shop", "user"), (("shop", "city"),))
TEXTS = (
    "-", "#", "#/2", "#/3 user", "user", "user/2", "user/3", "shop", "city", "city/2", "shop/2 user/2", "city user/2",
    "shop user")
ROWS = tuple(row_of(KEYS, records) for records in (
    (),
    ((4, (1, 10, 4)),),
    ((3, (1, 10, 4)), (0, (1, 11, -6))),
    ((3, (1, 10, 4)), (0, (1, 10, 4)), (7, (1, 10, 4))),
    ((3, (1, 10, 4)), (0, (1, 11, -6)), (7, (2, 20, 4)), (4, (1, 10, 9))),
    ((8, (2, 20, 1)), (3, (1, 10, 4)), (0, (1, 11, -6)), (7, (2, 20, 4)), (4, (1, 10, 10 ** 100))),
))
ROW = ROWS[4]
GREAT_ROW = tuple((number, (number // 4, number // 2, number)) for number in range(24))


def cases():
    for row in ROWS:
        for text in TEXTS:
            yield Stage.of(KEYS, text), row


class LettingTest(unittest.TestCase):

    def test_lanes(self):
        for stage, row in cases():
            with self.subTest((stage.text, row)):
                self.assertEqual(lanes(stage, row), plain_lanes(KEYS, stage, row))
        one, two, three, four = ROW
        self.assertEqual(lanes(Stage.of(KEYS, "user/3"), ROW), [(one, three), (two, four)])
        self.assertEqual(lanes(Stage.of(KEYS, "user/2"), ROW), [(one, two, three), (four,)])
        self.assertEqual(lanes(Stage.of(KEYS, "-"), ROW), [ROW])
        self.assertEqual(lanes(Stage.of(KEYS, "#"), ROW), [(one,), (two,), (three,), (four,)])
        self.assertEqual(lanes(Stage.of(KEYS, "#"), ()), [])

    def test_passes_and_crossed(self):
        for stage, row in cases():
            for out in permutations(row):
                pairs = plain_crossed(KEYS, stage, row, out)
                self.assertIs(passes(stage, row, out), not pairs)
                self.assertEqual(crossed(stage, row, out), pairs[0] if pairs else None)

    def test_which_pair_crossed_tells(self):
        one, two, three, four = ROW
        stage = Stage.of(KEYS, "-")
        self.assertEqual(crossed(stage, ROW, (one, four, three, two)), (0, 7))
        self.assertEqual(crossed(stage, ROW, (two, four, three, one)), (3, 0))
        self.assertEqual(crossed(stage, ROW, (three, four, one, two)), (3, 7))
        self.assertEqual(crossed(Stage.of(KEYS, "user/3"), ROW, (four, three, two, one)), (3, 7))

    def test_other_records_do_not_pass(self):
        one, two, three, four = ROW
        changed = (4, (1, 10, 8))
        for text in TEXTS:
            stage = Stage.of(KEYS, text)
            for out in ((), ROW[:3], ROW[1:], (*ROW, (9, (5, 50, 5))), (one, two, three, changed),
                        (one, two, three, (5, (1, 10, 9))), (one, two, four, (7, (2, 20, 5)))):
                with self.subTest((text, out)):
                    self.assertIs(passes(stage, ROW, out), False)
                    self.assertIsNone(turns_of(stage, ROW, out))
                    self.assertIsNone(costs_of(stage, ROW, out))
                    self.assertIsNone(place(stage, ROW, out))
                    self.assertIsNone(next_out(stage, ROW, out))
            self.assertIs(passes(stage, (), ROW), False)

    def test_exactly_these_come_out(self):
        for stage, row in cases():
            with self.subTest((stage.text, row)):
                expected = plain_outs(KEYS, stage, row)
                self.assertEqual(list(outs(stage, row)), expected)
                self.assertEqual(how_many(stage, row), len(expected))
                self.assertEqual([nth(stage, row, k) for k in range(len(expected))], expected)
                self.assertEqual([place(stage, row, out) for out in expected], list(range(len(expected))))
                self.assertEqual([next_out(stage, row, out) for out in expected], [*expected[1:], None])
                for k in (-1, -len(expected), len(expected), len(expected) + 1, -(10 ** 30), 10 ** 30):
                    check_raises(self, NoPlace, {"place": k}, nth, stage, row, k)

    def test_what_does_not_pass_has_no_place(self):
        for stage, row in cases():
            coming = plain_outs(KEYS, stage, row)
            for out in permutations(row):
                if out not in coming:
                    self.assertIsNone(turns_of(stage, row, out))
                    self.assertIsNone(costs_of(stage, row, out))
                    self.assertIsNone(place(stage, row, out))
                    self.assertIsNone(next_out(stage, row, out))

    def test_outs_comes_one_by_one(self):
        coming = outs(Stage.of(KEYS, "#"), GREAT_ROW)
        self.assertEqual(next(coming), GREAT_ROW)
        self.assertEqual(next(coming), GREAT_ROW[:22] + (GREAT_ROW[23], GREAT_ROW[22]))

    def test_more_records_in_few_lanes(self):
        keys = Keys(("a",))
        row = tuple((at, (worth,)) for at, worth in enumerate((2, 0, 1, 0, 2, 0, 1)))
        stage = Stage(keys, ("a",))
        expected = list(outs(stage, row))
        turns = [turns_of(stage, row, out) for out in expected]
        self.assertEqual(len(expected), how_many(stage, row))
        self.assertEqual(len(expected), factorial(7) // (2 * 6 * 2))
        self.assertEqual(turns, sorted(set(permutations((0, 0, 1, 1, 1, 2, 2)))))
        self.assertEqual([place(stage, row, nth(stage, row, k)) for k in range(len(expected))], list(range(len(expected))))


class TurnsTest(unittest.TestCase):

    def test_turns_there_and_back(self):
        for stage, row in cases():
            for out in plain_outs(KEYS, stage, row):
                turns = plain_turns(KEYS, stage, row, out)
                self.assertEqual(turns_of(stage, row, out), turns)
                self.assertEqual(pour(stage, row, turns), out)

    def test_all_tuples_of_turns(self):
        for text in ("-", "user/3", "user/2", "#", "shop"):
            stage = Stage.of(KEYS, text)
            for length in range(6):
                for turns in product(range(5), repeat=length):
                    self.check_turns(stage, turns)

    def check_turns(self, stage, turns):
        left = [list(lane) for lane in plain_lanes(KEYS, stage, ROW)]
        out = []
        for at, turn in enumerate(turns):
            if turn >= len(left) or not left[turn]:
                check_raises(self, BadTurns, {"place": at}, pour, stage, ROW, turns)
                return
            out.append(left[turn].pop(0))
        if any(left):
            check_raises(self, BadTurns, {"place": len(turns)}, pour, stage, ROW, turns)
        else:
            self.assertEqual(pour(stage, ROW, turns), tuple(out))

    def test_bad_turns(self):
        stage = Stage.of(KEYS, "user/2")
        for turns, at in (
                ((), 0), ((0,), 1), ((0, 0, 0), 3), ((0, 0, 0, 0), 3), ((0, 1, 1), 2), ((2,), 0), ((0, 10 ** 100), 1),
                ((0, 0, 0, 1, 0), 4), ((0, 0, 0, 1, 9), 4), ((1, 0, 0, 0, 0, 5), 4), ((0, -1, 0, 0), 1), ((-2, 0, 0, 0), 0)):
            with self.subTest(turns):
                check_raises(self, BadTurns, {"place": at}, pour, stage, ROW, turns)
        check_raises(self, BadTurns, {"place": 0}, pour, stage, (), (0,))
        self.assertEqual(pour(stage, (), ()), ())


class TimedTest(unittest.TestCase):

    def plain_timed(self, stage, row, arrivals, costs):
        ends = {}
        for lane in plain_lanes(KEYS, stage, row):
            clock = 0
            for record in lane:
                at = row.index(record)
                clock = max(clock, arrivals[at]) + costs[at]
                ends[record] = clock
        return tuple(sorted(row, key=lambda record: ends[record]))

    def test_small_arrivals_and_costs(self):
        for text in ("-", "user", "user/3", "shop", "#"):
            stage = Stage.of(KEYS, text)
            for arrivals in combinations_with_replacement((0, 1, 4), 4):
                for costs in product((0, 1, 2, 5), repeat=4):
                    expected = self.plain_timed(stage, ROW, arrivals, costs)
                    self.assertEqual(timed(stage, ROW, arrivals, costs), expected)
                    self.assertTrue(passes(stage, ROW, expected))

    def test_equal_ends_stand_as_in_the_row(self):
        number = Stage.of(KEYS, "#")
        one, two, three, four = ROW
        self.assertEqual(timed(number, ROW, (0, 0, 0, 0), (0, 0, 0, 0)), ROW)
        self.assertEqual(timed(number, ROW, (0, 1, 2, 3), (3, 2, 1, 0)), ROW)
        self.assertEqual(timed(number, ROW, (0, 1, 2, 3), (4, 2, 2, 0)), (two, four, one, three))

    def test_waiting_in_a_lane(self):
        one, two, three, four = ROW
        stage = Stage.of(KEYS, "user/3")
        self.assertEqual(timed(stage, ROW, (0, 0, 0, 0), (5, 1, 1, 9)), (two, one, three, four))
        self.assertEqual(timed(stage, ROW, (0, 0, 9, 9), (5, 1, 1, 0)), (two, one, four, three))

    def test_great_times(self):
        great = 10 ** 100
        one, two, three, four = ROW
        self.assertEqual(
            timed(Stage.of(KEYS, "#"), ROW, (0, 0, great, great), (great + 1, 2 * great, 2, 0)), (four, one, three, two))

    def test_costs(self):
        for stage, row in cases():
            zeros = (0,) * len(row)
            for out in plain_outs(KEYS, stage, row):
                costs = costs_of(stage, row, out)
                self.assertEqual(costs, self.plain_costs(stage, row, out))
                self.assertEqual(timed(stage, row, zeros, costs), out)

    def plain_costs(self, stage, row, out):
        costs = {}
        for lane in plain_lanes(KEYS, stage, row):
            last = 0
            for record in lane:
                costs[record] = out.index(record) + 1 - last
                last = out.index(record) + 1
        return tuple(costs[record] for record in row)


class EmptyRowTest(unittest.TestCase):

    def test_the_row_without_records(self):
        for text in TEXTS:
            stage = Stage.of(KEYS, text)
            self.assertEqual(lanes(stage, ()), [])
            self.assertIs(passes(stage, (), ()), True)
            self.assertIsNone(crossed(stage, (), ()))
            self.assertEqual(turns_of(stage, (), ()), ())
            self.assertEqual(timed(stage, (), (), ()), ())
            self.assertEqual(costs_of(stage, (), ()), ())
            self.assertEqual((how_many(stage, ()), nth(stage, (), 0), place(stage, (), ())), (1, (), 0))
            self.assertIsNone(next_out(stage, (), ()))
            self.assertEqual(list(outs(stage, ())), [()])
            check_raises(self, NoPlace, {"place": 1}, nth, stage, (), 1)
            check_raises(self, NoPlace, {"place": -1}, nth, stage, (), -1)
        self.assertEqual(exchanges((), ()), ())
        self.assertEqual(least_stages(KEYS, (), ()), [Stage(KEYS, ())])


class ExchangesTest(unittest.TestCase):

    def plain_exchanges(self, row, out):
        row, places = list(row), []
        while row != list(out):
            at = next(at for at in range(len(row)) if out.index(row[at]) > out.index(row[at + 1]))
            row[at:at + 2] = [row[at + 1], row[at]]
            places.append(at)
        return tuple(places)

    def test_all_orders(self):
        for row in ROWS:
            for out in permutations(row):
                self.assertEqual(exchanges(row, out), self.plain_exchanges(row, out))

    def test_the_order_of_exchanges(self):
        one, two, three, four = ROW
        self.assertEqual(exchanges(ROW, (four, three, two, one)), (0, 1, 0, 2, 1, 0))
        self.assertEqual(exchanges(ROW, (two, three, four, one)), (0, 1, 2))
        self.assertEqual(exchanges(ROW, (four, one, two, three)), (2, 1, 0))
        self.assertEqual(exchanges(ROW, (two, one, four, three)), (0, 2))
        self.assertEqual(exchanges(ROW, ROW), ())

    def test_as_many_as_there_are_exchanged_pairs(self):
        places = exchanges(GREAT_ROW, GREAT_ROW[::-1])
        self.assertEqual(len(places), 24 * 23 // 2)
        row = list(GREAT_ROW)
        for at in places:
            row[at], row[at + 1] = row[at + 1], row[at]
        self.assertEqual(tuple(row), GREAT_ROW[::-1])


class LeastStagesTest(unittest.TestCase):

    def plain_least(self, keys, row, out):
        """The texts, by the sets of names that are looked at."""
        names = ("#",) + keys.names
        looked = [set(chosen) for many in range(len(names) + 1) for chosen in combinations(names, many)]
        closed = [chosen for chosen in looked if all(set(keys.told(name)) <= chosen for name in chosen)]
        letting = [chosen for chosen in closed if self.lets(names, chosen, row, out)]
        least = [chosen for chosen in letting if not any(other < chosen for other in letting)]
        return sorted(
            " ".join(sorted(name for name in chosen if not any(keys.tells(other, name) for other in chosen))) or "-"
            for chosen in least)

    def lets(self, names, chosen, row, out):
        def lane(record):
            return [worth for name, worth in zip(names, (record[0], *record[1])) if name in chosen]
        return all(
            lane(one) != lane(other) or out.index(one) < out.index(other)
            for at, one in enumerate(row) for other in row[at + 1:])

    def test_all_orders(self):
        for row in ROWS:
            for out in permutations(row):
                least = least_stages(KEYS, row, out)
                self.assertEqual([stage.text for stage in least], self.plain_least(KEYS, row, out))
                self.assertTrue(all(stage.schema == KEYS and passes(stage, row, out) for stage in least))

    def test_other_keys(self):
        for keys in (Keys(("a", "b", "c")), Keys(("a", "b", "c"), (("b", "a"), ("c", "b"))),
                     Keys(("a", "b", "c"), (("b", "a"), ("c", "a")))):
            row = row_of(keys, ((0, (0, 0, 0)), (1, (0, 0, 1)), (2, (0, 2, 2)), (3, (1, 3, 3)), (4, (0, 0, 0))))
            for out in permutations(row):
                self.assertEqual(
                    [stage.text for stage in least_stages(keys, row, out)], self.plain_least(keys, row, out))

    def test_by_hand(self):
        keys = Keys(("a", "b"))
        row = ((0, (0, 0)), (1, (0, 1)), (2, (1, 0)), (3, (0, 0)))
        self.assertEqual([stage.text for stage in least_stages(keys, row, row)], ["-"])
        self.assertEqual(
            [stage.text for stage in least_stages(keys, row, (row[1], row[0], row[2], row[3]))], ["b"])
        self.assertEqual(
            [stage.text for stage in least_stages(keys, row, (row[0], row[2], row[1], row[3]))], ["a", "b"])
        self.assertEqual(
            [stage.text for stage in least_stages(keys, row, (row[2], row[1], row[0], row[3]))], ["a b"])
        self.assertEqual([stage.text for stage in least_stages(keys, row, row[::-1])], ["#"])
        self.assertEqual([stage.text for stage in least_stages(Keys(()), ((0, ()), (1, ())), ((1, ()), (0, ())))], ["#"])

    def test_five_names_and_24_records(self):
        keys = Keys(("a", "b", "c", "d", "e"), (("e", "d"),))
        row = tuple((at, (at // 12, at // 6, at // 3, at // 2, at)) for at in range(24))
        self.assertEqual([stage.text for stage in least_stages(keys, row, row)], ["-"])
        self.assertEqual([stage.text for stage in least_stages(keys, row, row[::-1])], ["e"])
        self.assertEqual(
            [stage.text for stage in least_stages(keys, row, row[:11] + (row[12], row[11]) + row[13:])],
            ["a", "b", "c", "d"])


class BoundsTest(unittest.TestCase):

    def test_24_records_in_24_lanes(self):
        for text in ("#", "user"):
            stage = Stage.of(KEYS, text)
            many = factorial(24)
            self.assertEqual(how_many(stage, GREAT_ROW), many)
            self.assertEqual(nth(stage, GREAT_ROW, 0), GREAT_ROW)
            self.assertEqual(nth(stage, GREAT_ROW, many - 1), GREAT_ROW[::-1])
            self.assertEqual(place(stage, GREAT_ROW, GREAT_ROW[::-1]), many - 1)
            self.assertEqual(next_out(stage, GREAT_ROW, GREAT_ROW[:1] + GREAT_ROW[:0:-1]), GREAT_ROW[1:2] + GREAT_ROW[:1]
                             + GREAT_ROW[2:])
            self.assertIsNone(next_out(stage, GREAT_ROW, GREAT_ROW[::-1]))
            check_raises(self, NoPlace, {"place": many}, nth, stage, GREAT_ROW, many)
            for k in (many // 3, many // 7 * 5, 10 ** 20 + 1):
                out = nth(stage, GREAT_ROW, k)
                self.assertEqual(place(stage, GREAT_ROW, out), k)
                self.assertEqual(place(stage, GREAT_ROW, next_out(stage, GREAT_ROW, out)), k + 1)

    def test_24_records_in_fewer_lanes(self):
        for text, many in (("user/2", comb(24, 12)), ("city", factorial(24) // 24 ** 6), ("shop", factorial(24) // 2 ** 12)):
            stage = Stage.of(KEYS, text)
            self.assertEqual(how_many(stage, GREAT_ROW), many)
            self.assertEqual(plain_lane(KEYS, stage, GREAT_ROW[0]), stage.lane(GREAT_ROW[0]))
            for k in (0, 1, many // 2, many // 3, many - 2, many - 1):
                out = nth(stage, GREAT_ROW, k)
                self.assertTrue(passes(stage, GREAT_ROW, out))
                self.assertEqual(place(stage, GREAT_ROW, out), k)
                self.assertEqual(next_out(stage, GREAT_ROW, out), nth(stage, GREAT_ROW, k + 1) if k + 1 < many else None)
                self.assertEqual(timed(stage, GREAT_ROW, (0,) * 24, costs_of(stage, GREAT_ROW, out)), out)
            check_raises(self, NoPlace, {"place": many}, nth, stage, GREAT_ROW, many)

    def test_numbers_and_values_of_100_digits(self):
        great = 10 ** 100
        row = row_of(KEYS, ((great, (-great, great, great)), (great - 1, (-great, great, -great)), (0, (1, 1, great))))
        stage = Stage.of(KEYS, "user")
        self.assertEqual(lanes(stage, row), [(row[0], row[2]), (row[1],)])
        self.assertEqual(list(outs(stage, row)), [(row[0], row[2], row[1]), row, (row[1], row[0], row[2])])
        self.assertEqual(crossed(stage, row, row[::-1]), (great, 0))
        self.assertEqual([least.text for least in least_stages(KEYS, row, row[::-1])], ["city user"])


if __name__ == "__main__":
    unittest.main()
