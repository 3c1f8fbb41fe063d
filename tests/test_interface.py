"""The names and parameters of the interface, the files that define them, and calls by keyword."""

import copy
import importlib
import inspect
import unittest

from leapfit import errors
from leapfit.console import Console
from leapfit.log import Log
from tests.support import RECORDS, same

FUNCTIONS = {
    "rules": {
        "is_rule": "value", "reduce_rule": "p q c", "count": "rule time", "count_sum": "rule start stop",
        "shift_rule": "rule time amount", "mirror_rule": "rule", "thin_rule": "rule k", "sample_rule": "rule k",
    },
    "floor_sums": {"floor_sum": "number slope offset divisor"},
    "events": {
        "event_time": "rule event", "event_rule": "rule", "events_in": "rule start stop", "next_event": "rule time",
        "previous_event": "rule time", "event_time_sum": "rule first last", "busy_times": "rule start stop",
        "gap_range": "rule events", "residue_times": "rule k r start stop", "next_residue": "rule k r time",
    },
    "windows": {
        "window_range": "rule width", "full_windows": "rule width start stop", "next_full": "rule width start",
    },
    "patterns": {
        "pattern_total": "rule width", "pattern_rank": "rule width start",
        "pattern_count": "rule width rank start stop", "next_pattern": "rule width rank start",
        "pattern_distances": "rule width rank",
    },
    "comparison": {
        "compare_counts": "first second start stop", "first_lead": "first second start amount",
        "last_lead": "first second stop amount", "lead_range": "first second start stop",
        "first_difference": "first second start", "last_difference": "first second stop",
        "nth_agreement": "first second start number", "all_agreements": "first second",
    },
    "records": {"is_record": "value", "count_records": "time count", "event_records": "event time"},
    "fractions": {"simplest_between": "low high"},
    "fitting": {"fits": "rule records", "rates": "records", "phases": "records rate"},
    "conflicts": {"conflict": "records", "is_conflict": "records value", "blame": "records"},
    "implied": {
        "opposite": "record", "follows": "records record", "is_answer": "records record value", "core": "records",
    },
    "repairs": {
        "repair": "records rate prices=None", "is_repair": "records rate value prices=None",
        "least_repair": "records prices=None",
    },
    "pins": {"pins": "rule most", "are_pins": "rule most value"},
    "cycles": {
        "least_cycle": "records", "least_rule": "records", "count_pairs": "records cycle",
        "count_rules": "records cycle", "rule_at": "records cycle index", "index_of": "records rule",
    },
    "forecasts": {
        "count_range": "records time", "event_range": "records event", "witness": "records time count",
        "certify_range": "records time", "is_range_certificate": "records time value",
    },
    "spreads": {
        "spread": "records time", "spread_sum": "records start stop", "count_settled": "records start stop",
        "next_open": "records time", "next_settled": "records time",
    },
    "notation": {
        "format_rule": "rule", "parse_rule": "text", "format_record": "record", "parse_record": "text",
        "format_log": "log", "parse_log": "text",
    },
    "evenness": {"uneven": "counts", "is_uneven_certificate": "counts value", "cycle_rule": "pattern"},
}

METHODS = {
    "log": {"Log": {
        "report": "moment witness record", "distrust": "moment witness", "trust": "moment witness", "delete": "moment",
        "entries": "until=None", "records": "until=None", "rates": "until=None", "least_rule": "until=None",
        "count_range": "time until=None", "blamed": "until=None", "suspects": "until=None", "changes": "",
    }},
    "console": {"Console": {"run": "line"}},
}

LOW, HIGH = (5, [1, 2], (2, 9, 8)), (7, [0, 3], (7, 18, 1))

# One value for each parameter that has the same meaning everywhere, and what is special to some functions.
ARGUMENTS = {
    "rule": (2, 5, 1), "time": 20, "start": 0, "stop": 11, "first": (2, 5, 1), "second": (1, 3, 0), "event": 5, "k": 3,
    "r": 2, "width": 2, "rank": 1, "amount": 1, "number": 1, "records": RECORDS, "record": ("at least", 5, 3), "count": 6,
    "rate": (1, 3), "prices": [2, 3, 1, 0], "cycle": 3, "index": 1, "most": 7, "counts": [0, 0, 0, 1, 2],
    "pattern": [0, 1, 0, 0, 1], "events": 1, "low": (1, 5), "high": (2, 5), "p": 2, "q": 4, "c": 7, "slope": 2, "offset": 1,
    "divisor": 3,
}
SPECIAL = {
    "is_rule": {"value": (2, 5, 1)}, "is_record": {"value": ("at most", 3, 1)}, "event_time_sum": {"first": 0, "last": 3},
    "is_conflict": {"records": [*RECORDS, ("at most", 11, 0)], "value": [2, 4]}, "core": {"records": RECORDS * 2},
    "conflict": {"records": [*RECORDS, ("at most", 11, 0)]}, "blame": {"records": [*RECORDS, ("at most", 11, 0)]},
    "is_answer": {"value": ("open", (1, 3, 0))}, "is_repair": {"value": ([], [])},
    "are_pins": {"rule": (1, 3, 0), "most": 5,
                 "value": [("at most", -7, -3), ("at least", 0, 0), ("at most", 5, 1)]},
    "index_of": {"rule": (1, 3, 1)}, "is_range_certificate": {"value": (LOW, HIGH)},
    "is_uneven_certificate": {"value": ("windows", 2, 0, 2)}, "parse_rule": {"text": "rule 2 5 1"},
    "parse_record": {"text": "at least 7 at 20"}, "parse_log": {"text": "7 bob is trusted\n5 ann reports at least 3 at 0"},
    "next_settled": {"time": 1},
}


def every_function():
    for file, functions in FUNCTIONS.items():
        module = importlib.import_module("leapfit." + file)
        for name, parameters in functions.items():
            yield file, name, getattr(module, name), parameters.split()


def sample_log():
    log = Log()
    log.report(5, "ann", ("at least", 0, 3))
    log.report(7, "bob", ("at most", 4, 1))
    log.distrust(9, "bob")
    return log


def arguments_of(name, parameters):
    given = {**ARGUMENTS, "log": sample_log(), **SPECIAL.get(name, {})}
    return {word.removesuffix("=None"): given[word.removesuffix("=None")] for word in parameters}


def as_tuple(value):
    return tuple(value) if type(value) is list else value


def shown(value):
    """A log is shown by its entries."""
    return repr(value.entries() if isinstance(value, Log) else value)


class InterfaceTest(unittest.TestCase):
    def check_parameters(self, function, parameters):
        kinds = inspect.signature(function).parameters
        self.assertEqual(list(kinds), [word.removesuffix("=None") for word in parameters])
        for parameter in kinds.values():
            by_keyword = f"{parameter.name}=None" in parameters
            kind = parameter.KEYWORD_ONLY if by_keyword else parameter.POSITIONAL_OR_KEYWORD
            self.assertEqual(parameter.kind, kind)
            self.assertIs(parameter.default, None if by_keyword else parameter.empty)

    def test_parameters(self):
        for file, name, function, parameters in every_function():
            with self.subTest(name=name):
                self.assertTrue(inspect.isfunction(function))
                self.assertEqual(function.__module__, "leapfit." + file)
                self.check_parameters(function, parameters)

    def test_methods(self):
        for file, classes in METHODS.items():
            module = importlib.import_module("leapfit." + file)
            for name, methods in classes.items():
                owner = getattr(module, name)
                self.assertEqual(owner.__module__, "leapfit." + file)
                self.assertEqual(list(inspect.signature(owner).parameters), [])
                for method, parameters in methods.items():
                    self.check_parameters(vars(owner)[method], ["self", *parameters.split()])
        self.assertIn("__len__", vars(Log))

    def test_by_keyword(self):
        for file, name, function, parameters in every_function():
            with self.subTest(name=name):
                given = arguments_of(name, parameters)
                before = copy.deepcopy({word: value for word, value in given.items() if word != "log"})
                positions = [word for word in parameters if "=" not in word]
                plain = function(*[given[word] for word in positions])
                keyword_only = {word: given[word] for word in given if word not in positions}
                whole = function(*[given[word] for word in positions], **keyword_only)
                self.assertEqual(shown(function(**given)), shown(whole))
                self.assertEqual(shown(function(**dict(reversed(list(given.items()))))), shown(whole))
                self.assertEqual(shown(function(**{word: given[word] for word in positions})), shown(plain))
                self.assertEqual(shown(function(**{word: as_tuple(given[word]) for word in given})), shown(whole))
                self.assertTrue(same({word: given[word] for word in before}, before))

    def test_log_by_keyword(self):
        log = Log()
        self.assertIsNone(log.report(witness="ann", record=("at least", 0, 3), moment=5))
        self.assertIsNone(log.distrust(witness="ann", moment=6))
        self.assertIsNone(log.trust(witness="ann", moment=7))
        for name, parameters in METHODS["log"]["Log"].items():
            if "until=None" in parameters:
                method = getattr(log, name)
                given = {"time": 3} if "time" in parameters else {}
                self.assertEqual(method(**given), method(*given.values()))
                self.assertEqual(method(until=None, **given), method(*given.values()))
                self.assertEqual(method(**given, until=5), method(until=5, **given))
        self.assertEqual(log.changes(), [])
        self.assertIsNone(log.delete(moment=6))
        self.assertEqual(len(log), 2)
        self.assertEqual(Console().run(line="rates"), "from 0")

    def test_every_error_is_raised(self):
        records, conflicting = RECORDS, [*RECORDS, ("at most", 11, 0)]
        log, console = sample_log(), Console()
        for error, attribute, value, name, arguments in (
                ("InvalidRule", "value", (2, 4, 1), "mirror_rule", [(2, 4, 1)]),
                ("InvalidNumber", "value", True, "count", [(2, 5, 1), True]),
                ("InvalidRate", "value", (2, 4), "phases", [records, (2, 4)]),
                ("InvalidCounts", "value", [], "uneven", [[]]),
                ("TooMany", "value", 40, "least_repair", [records * 11]),
                ("IndexOutOfRange", "value", 2, "rule_at", [records, 3, 2]),
                ("NotFitting", "value", (1, 1, 0), "index_of", [records, (1, 1, 0)]),
                ("NotPossible", "value", 8, "witness", [records, 20, 8]),
                ("DuplicateMoment", "value", 5, "parse_log", ["5 ann is trusted\n5 bob is trusted"]),
                ("InvalidRecord", "index", 4, "rates", [[*records, None]]),
                ("ParseError", "line", "rule 2 4 1", "parse_rule", ["rule 2 4 1"]),
                ("NoRule", None, None, "core", [conflicting]), ("Fitting", None, None, "blame", [records]),
                ("Unbounded", None, None, "count_pairs", [[], 3]), ("NoEvents", None, None, "event_rule", [(0, 1, 5)])):
            function = next(function for _, other, function, _ in every_function() if other == name)
            self.check_error(error, attribute, value, lambda: function(*arguments))
        self.check_error("InvalidPrice", "index", 1,
                         lambda: importlib.import_module("leapfit.repairs").repair(records, (1, 3), prices=[1, -1, 1, 1]))
        self.check_error("InvalidWitness", "value", "Ann", lambda: log.trust(1, "Ann"))
        self.check_error("UnknownMoment", "value", 6, lambda: log.delete(6))
        self.check_error("UnknownName", "value", "a", lambda: console.run("count a 1"))
        self.check_error("CommandError", "line", "count", lambda: console.run("count"))
        self.assertEqual(sorted(self.seen), sorted(name for name, thing in vars(errors).items() if isinstance(
            thing, type) and name != "LeapfitError"))

    def setUp(self):
        self.seen = []

    def check_error(self, name, attribute, value, call):
        self.seen.append(name)
        with self.assertRaises(ValueError) as caught:
            call()
        error = caught.exception
        self.assertIs(type(error), getattr(errors, name))
        self.assertEqual(type(error).__mro__[1:3], (errors.LeapfitError, ValueError))
        self.assertTrue(same(vars(error), {} if attribute is None else {attribute: value}))


if __name__ == "__main__":
    unittest.main()
