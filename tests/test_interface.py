"""[19]: where the names of the interface are defined, and which arguments they take."""

import ast
import importlib
import inspect
import pathlib
import unittest

PACKAGE = pathlib.Path(__file__).resolve().parent.parent / "keyspans"

FUNCTIONS = {
    "keys": {"is_field": "(thing)", "is_part": "(thing)", "field_of": "(text)", "parts_of": "(text)"},
    "stages": {},
    "lanes": {
        "is_row": "(keys, thing)", "row_of": "(keys, records)", "value": "(keys, record, field)",
        "lanes": "(stage, row)", "passes": "(stage, row, out)", "crossed": "(stage, row, out)",
        "pour": "(stage, row, turns)", "turns_of": "(stage, row, out)", "timed": "(stage, row, arrivals, costs)",
        "costs_of": "(stage, row, out)", "how_many": "(stage, row)", "nth": "(stage, row, k)",
        "place": "(stage, row, out)", "next_out": "(stage, row, out)", "outs": "(stage, row)",
        "exchanges": "(row, out)", "least_stages": "(keys, row, out)",
    },
    "pipelines": {"built": "(keys, names, pairs)"},
    "carry": {
        "is_run": "(p, thing)", "why_no_run": "(p, rows)", "run_of": "(p, row, turns)", "turns_of_run": "(p, run)",
        "only": "(run, numbers)", "filled": "(p)", "laid": "(p, q)", "carried": "(p, q, run)",
        "together": "(p, part, runs, row, out)",
    },
    "partings": {"parting": "(p, q)", "is_parting": "(p, q, thing)", "parted_on": "(p, q, row)"},
    "given": {
        "may_come": "(p, row, front)", "why_never": "(p, row, front)", "is_ring": "(p, row, front, thing)",
        "next_numbers": "(p, row, front)", "reached": "(p, row)", "all_outs": "(p, row)",
    },
    "promises": {
        "places_of": "(pipeline, row, number)", "run_to": "(pipeline, row, number, place)", "mends": "(line, promise)"},
    "edits": {
        "edited": "(pipeline, edit)", "effect": "(pipeline, edit)", "needless_stages": "(pipeline)", "swaps": "(pipeline)",
        "joints": "(pipeline)", "lean": "(pipeline)", "twice": "(pipeline, part)", "forms": "(keys)", "how_many_forms": "(count)",
    },
    "above": {
        "kept_by_all": "(pipelines)", "least_above": "(pipelines)", "must_ahead": "(services, targets)",
        "arrange": "(services, targets, *, wishes=())", "orders": "(services, targets, *, wishes=())",
        "how_many_orders": "(services, targets, *, wishes=())", "any_order": "(services, targets)",
    },
    "readers": {
        "seen": "(reader, row)", "same_for": "(p, q, reader, *, source=None)", "hiding_stage": "(p, q)",
        "hiding_source": "(p, q)", "may_show": "(p, row, reader, view)", "is_lossy": "(p, thing)", "late_losses": "(p, run)",
    },
    "logs": {
        "question": "(keys, label)", "learned": "(keys, names, labels)", "why_no_form": "(keys, names, labels)",
        "best_question": "(keys, names, forms)", "sample": "(p, parts)",
    },
    "texts": {"row_text": "(row)", "row_in": "(keys, text)", "board_text": "(board)", "board_in": "(keys, text)"},
    "desk": {"answers": "(text)"},
}
CLASSES = {
    ("keys", "Keys"): {
        "made": "(names, tells=())",
        "methods": {"tells": "(self, one, other)", "told": "(self, name)", "of": "(text)"},
        "properties": ("names", "pairs", "text"),
        "signs": ("__init__", "__contains__", "__len__", "__eq__"),
    },
    ("stages", "Stage"): {
        "made": "(keys, fields)",
        "methods": {"lane": "(self, record)", "same": "(self, one, other)", "of": "(keys, text)"},
        "properties": ("schema", "fields", "text"),
        "signs": ("__init__", "__getitem__", "__contains__", "__len__", "__eq__", "__le__", "__lt__",
                  "__or__", "__and__", "__xor__"),
    },
    ("pipelines", "Pipeline"): {
        "made": "(keys, stages=())",
        "methods": {
            "of": "(keys, text)", "span": "(self, part)", "ahead": "(self, one, other)", "open_at": "(self, place)",
            "__call__": "(self, row, turns)"},
        "properties": ("schema", "stages", "text", "parts", "plain"),
        "signs": ("__init__", "__len__", "__bool__", "__getitem__", "__contains__", "__rshift__", "__pow__", "__invert__",
                  "__le__", "__lt__", "__eq__", "__call__"),
    },
    ("partings", "Parting"): {
        "made": "(run, parts)",
        "methods": {"cut": "(self, q)"},
        "properties": ("run", "parts", "row", "out"),
        "signs": ("__init__", "__len__", "__eq__"),
    },
    ("promises", "Promise"): {
        "made": "(stage)",
        "methods": {"broken": "(self, pipeline)", "least": "(pipeline)", "__call__": "(self, pipeline)"},
        "properties": ("stage",),
        "signs": ("__init__", "__call__", "__le__", "__lt__", "__eq__", "__and__"),
    },
    ("promises", "Restorer"): {
        "made": "(stage)",
        "methods": {"__call__": "(self, row, turns)"},
        "properties": ("stage",),
        "signs": ("__init__", "__call__", "__eq__"),
    },
    ("promises", "Line"): {
        "made": "(keys, items)",
        "methods": {"put": "(self, place, stage)", "of": "(keys, text)", "__call__": "(self, row, turns)"},
        "properties": ("schema", "steps", "text", "last", "pipeline"),
        "signs": ("__init__", "__call__", "__len__", "__le__", "__eq__"),
    },
    ("logs", "Logs"): {
        "made": "(keys, logs=())",
        "methods": {
            "turned": "(self, k)", "misfit": "(self, p)", "least_forms": "(self, names)", "sure": "(self, names)",
            "sent": "(p, pairs)"},
        "properties": ("schema",),
        "signs": ("__init__", "__len__", "__getitem__", "__contains__", "__add__", "__eq__"),
    },
    ("board", "Board"): {
        "made": "(keys)",
        "methods": {
            "leave": "(self, name)", "move": "(self, name, place)", "reorder": "(self, names)", "arrange": "(self)",
            "limit": "(self, name, pipeline)", "lift": "(self, name)", "effect": "(self, name, fields)",
            "send": "(self, row, turns)", "attempt": "(self, deeds)", "undo": "(self)", "twin": "(self)"},
        "properties": ("schema", "pipeline", "order", "limits", "logs"),
        "signs": ("__init__", "__getitem__", "__setitem__", "__iadd__", "__contains__", "__len__", "__eq__"),
    },
}


def module(name):
    return importlib.import_module("keyspans." + name)


def tree(name):
    return ast.parse((PACKAGE / (name + ".py")).read_text())


class InterfaceTest(unittest.TestCase):

    def test_functions_are_defined_in_their_files(self):
        for name, functions in FUNCTIONS.items():
            defined = [node.name for node in tree(name).body if isinstance(node, ast.FunctionDef)]
            for function, arguments in functions.items():
                with self.subTest(function):
                    self.assertIn(function, defined)
                    self.assertEqual(str(inspect.signature(getattr(module(name), function))), arguments)

    def test_classes_define_their_methods_themselves(self):
        for (name, title), listed in CLASSES.items():
            made = getattr(module(name), title)
            node, = [node for node in tree(name).body if isinstance(node, ast.ClassDef) and node.name == title]
            defined = [inner.name for inner in node.body if isinstance(inner, ast.FunctionDef)]
            self.assertEqual(str(inspect.signature(made)), listed["made"])
            for method in [*listed["methods"], *listed["properties"], *listed["signs"]]:
                with self.subTest((title, method)):
                    self.assertIn(method, defined)
            for method, arguments in listed["methods"].items():
                with self.subTest((title, method)):
                    self.assertEqual(str(inspect.signature(getattr(made, method))), arguments)

    def test_properties_have_no_setters(self):
        keys = module("keys").Keys(("a",))
        stage = module("stages").Stage(keys, ("a",))
        pipeline = module("pipelines").Pipeline(keys, (stage,))
        parting = module("partings").Parting(((), ()), ())
        promises = module("promises")
        made = (
            keys, stage, pipeline, parting, promises.Promise(stage), promises.Restorer(stage), promises.Line(keys, ()),
            module("logs").Logs(keys), module("board").Board(keys))
        self.assertEqual(len(made), len(CLASSES))
        for thing, listed in zip(made, CLASSES.values()):
            for name in listed["properties"]:
                with self.subTest(name):
                    held = getattr(thing, name)
                    with self.assertRaises(AttributeError):
                        setattr(thing, name, held)
                    self.assertEqual(getattr(thing, name), held)

    def test_of_is_static(self):
        self.assertIsInstance(vars(module("keys").Keys)["of"], staticmethod)
        self.assertIsInstance(vars(module("stages").Stage)["of"], staticmethod)
        self.assertIsInstance(vars(module("pipelines").Pipeline)["of"], staticmethod)

        self.assertIsInstance(vars(module("promises").Promise)["least"], staticmethod)
        self.assertIsInstance(vars(module("promises").Line)["of"], staticmethod)
        self.assertIsInstance(vars(module("logs").Logs)["sent"], staticmethod)

    def test_outs_and_orders_are_generators(self):
        self.assertTrue(inspect.isgeneratorfunction(module("lanes").outs))
        self.assertTrue(inspect.isgeneratorfunction(module("above").orders))


if __name__ == "__main__":
    unittest.main()
