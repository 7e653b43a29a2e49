"""What [2] allows of each call: arguments by name, lists for tuples, equal results, arguments that stay as they are."""

import copy

from keyspans.board import Board
from keyspans.logs import Logs
from keyspans.partings import Parting
from keyspans.pipelines import Pipeline
from keyspans.promises import Line
from keyspans.stages import Stage


def with_lists(thing, depth=99):
    """The same with lists for tuples, down to a depth."""
    if isinstance(thing, tuple) and depth > 0:
        return [with_lists(member, depth - 1) for member in thing]
    return thing


def inner_lists(thing):
    """The same with lists for the tuples that stand in tuples, not for the outermost."""
    return tuple(with_lists(member) for member in thing) if isinstance(thing, tuple) else thing


def kinds(thing):
    """The kinds of values that a result is built from."""
    if isinstance(thing, (list, tuple)):
        return [type(thing), *[kinds(member) for member in thing]]
    return type(thing)


def shown(result):
    """A result with what == does not look at: the texts of Pipelines, the order of LOGs."""
    if isinstance(result, (Pipeline, Line, Stage)):
        return type(result), result.text
    if isinstance(result, Logs):
        return "Logs", [result[k] for k in range(len(result))], kinds([result[k] for k in range(len(result))])
    if isinstance(result, Board):
        return "Board", result.order, result.limits, result.pipeline.text, result.logs, kinds(result.logs)
    if isinstance(result, Parting):
        return "Parting", result.run, result.parts, kinds(result.run)
    if isinstance(result, (list, tuple)):
        return kinds(result), [shown(member) for member in result]
    return result


class CallsChecks:
    """Tests of calls, a tuple of pairs (call, arguments by the names that the interface shows)."""

    calls = ()
    # These take a thing: a list for a tuple makes it another thing.
    taking_things = ()

    def test_by_name_and_by_position(self):
        for call, named in self.calls:
            with self.subTest(call):
                self.assertEqual(shown(call(**named)), shown(call(*named.values())))

    def test_again(self):
        for call, named in self.calls:
            with self.subTest(call):
                self.assertEqual(shown(call(**named)), shown(call(**named)))

    def test_lists_for_tuples_at_each_depth(self):
        changes = [lambda worth, depth=depth: with_lists(worth, depth) for depth in range(1, 6)] + [inner_lists]
        for call, named in self.calls:
            if call in self.taking_things:
                continue
            expected = call(**named)
            for changed in changes:
                with self.subTest(call):
                    given = call(**{name: changed(worth) for name, worth in named.items()})
                    self.assertEqual(given, expected)
                    self.assertEqual(shown(given), shown(expected))
                    self.assertEqual(kinds(given), kinds(expected))

    def test_arguments_stay_as_they_are(self):
        for call, named in self.calls:
            given = {name: with_lists(worth) for name, worth in named.items()}
            plain = {name: worth for name, worth in given.items() if isinstance(worth, list)}
            before = copy.deepcopy(plain)
            call(**given)
            with self.subTest(call):
                self.assertEqual(plain, before)
