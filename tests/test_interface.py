"""The names and parameters of the interface, and that they are defined in the files that the document names."""

import importlib
import inspect
import unittest

FUNCTIONS = {
    "rules": {
        "is_rule": "value", "reduce_rule": "p q c", "count": "rule time", "count_sum": "rule start stop",
        "shift_rule": "rule time amount", "mirror_rule": "rule", "thin_rule": "rule k", "sample_rule": "rule k",
    },
    "floor_sums": {"floor_sum": "number slope offset divisor"},
    "events": {
        "event_time": "rule event", "event_rule": "rule", "events_in": "rule start stop", "next_event": "rule time",
        "previous_event": "rule time", "event_time_sum": "rule first last", "busy_times": "rule start stop",
        "gap_range": "rule events", "residue_times": "rule k r start stop", "next_residue": "rule k r time",
    },
    "windows": {
        "window_range": "rule width", "full_windows": "rule width start stop", "next_full": "rule width start",
    },
    "patterns": {
        "pattern_total": "rule width", "pattern_rank": "rule width start",
        "pattern_count": "rule width rank start stop", "next_pattern": "rule width rank start",
        "pattern_distances": "rule width rank",
    },
    "comparison": {
        "compare_counts": "first second start stop", "first_lead": "first second start amount",
        "last_lead": "first second stop amount", "lead_range": "first second start stop",
        "first_difference": "first second start", "last_difference": "first second stop",
        "nth_agreement": "first second start number", "all_agreements": "first second",
    },
    "records": {"is_record": "value", "count_records": "time count", "event_records": "event time"},
    "fractions": {"simplest_between": "low high"},
    "fitting": {"fits": "rule records", "rates": "records", "phases": "records rate"},
    "conflicts": {"conflict": "records", "is_conflict": "records value", "blame": "records"},
    "implied": {
        "opposite": "record", "follows": "records record", "is_answer": "records record value", "core": "records",
    },
    "repairs": {
        "repair": "records rate prices=None", "is_repair": "records rate value prices=None",
        "least_repair": "records prices=None",
    },
    "pins": {"pins": "rule most", "are_pins": "rule most value"},
    "cycles": {
        "least_cycle": "records", "least_rule": "records", "count_pairs": "records cycle",
        "count_rules": "records cycle", "rule_at": "records cycle index", "index_of": "records rule",
    },
    "forecasts": {
        "count_range": "records time", "event_range": "records event", "witness": "records time count",
        "certify_range": "records time", "is_range_certificate": "records time value",
    },
    "evenness": {"uneven": "counts", "is_uneven_certificate": "counts value", "cycle_rule": "pattern"},
}


class InterfaceTest(unittest.TestCase):
    def test_parameters(self):
        for file, functions in FUNCTIONS.items():
            module = importlib.import_module("leapfit." + file)
            for name, parameters in functions.items():
                with self.subTest(name=name):
                    function = getattr(module, name)
                    self.assertEqual(function.__module__, "leapfit." + file)
                    kinds = inspect.signature(function).parameters
                    self.assertEqual(list(kinds), [word.removesuffix("=None") for word in parameters.split()])
                    for parameter in kinds.values():
                        self.check_parameter(parameter, f"{parameter.name}=None" in parameters.split())

    def check_parameter(self, parameter, by_keyword):
        kind = parameter.KEYWORD_ONLY if by_keyword else parameter.POSITIONAL_OR_KEYWORD
        self.assertEqual(parameter.kind, kind)
        self.assertIs(parameter.default, None if by_keyword else parameter.empty)


if __name__ == "__main__":
    unittest.main()
