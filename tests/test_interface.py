"""The names and parameters of the interface, and that they are defined in the files that the document names."""

import importlib
import inspect
import unittest

FUNCTIONS = {
    "rules": {
        "is_rule": "value", "reduce_rule": "p q c", "count": "rule time", "count_sum": "rule start stop",
        "shift_rule": "rule time amount", "mirror_rule": "rule", "thin_rule": "rule k", "sample_rule": "rule k",
    },
    "floor_sums": {"floor_sum": "number slope offset divisor"},
}


class InterfaceTest(unittest.TestCase):
    def test_parameters(self):
        for file, functions in FUNCTIONS.items():
            module = importlib.import_module("leapfit." + file)
            for name, parameters in functions.items():
                with self.subTest(name=name):
                    function = getattr(module, name)
                    self.assertEqual(function.__module__, "leapfit." + file)
                    kinds = inspect.signature(function).parameters
                    self.assertEqual(list(kinds), parameters.split())
                    for parameter in kinds.values():
                        self.assertEqual(parameter.kind, inspect.Parameter.POSITIONAL_OR_KEYWORD)
                        self.assertIs(parameter.default, inspect.Parameter.empty)


if __name__ == "__main__":
    unittest.main()
