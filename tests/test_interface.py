"""The names, arguments and kinds that the document's interface tells."""

import importlib
import inspect
import unittest

FUNCTIONS = {
    "figures": {"figures_of": ["base", "n"], "number_by": ["base", "figures"], "is_rule": ["thing"],
                "is_good": ["rule", "n"]},
    "stands": {"stand_behind": ["rule", "figures"], "all_stands": ["rule"], "step_from": ["rule", "stand", "figure"]},
    "which": {"count_below": ["rule", "n"], "good_by": ["rule", "k"], "place_of": ["rule", "n"],
              "next_good": ["rule", "n"], "last_good": ["rule", "n"]},
    "sums": {"sum_below": ["rule", "n"], "figures_below": ["rule", "n"], "often_below": ["rule", "n", "figure"]},
    "lengths": {"count_long": ["rule", "m"], "sum_long": ["rule", "m"], "least_long": ["rule", "m"],
                "greatest_long": ["rule", "m"], "is_endless": ["rule"], "greatest_good": ["rule"]},
    "together": {"keeps_all": ["rules", "n"], "count_keeping": ["rules", "n"], "all_keeping": ["rules", "n"],
                 "next_keeping": ["rules", "n"], "one_rule": ["rules"]},
    "texts": {"show_rule": ["rule"], "read_rule": ["text"], "show_number": ["base", "n"],
              "read_number": ["base", "text"]},
}
CLASSES = {
    ("keeper", "Keeper"): {"__init__": ["self", "rule", "b"], "come": ["self", "stretch"], "go": ["self", "stretch"],
                           "rule": ["self"], "good": ["self", "k"], "below": ["self", "n"]},
    ("desk", "Desk"): {"__init__": ["self"], "say": ["self", "row"], "names": ["self"]},
}


class Interface(unittest.TestCase):
    def hold(self, told, parameters):
        self.assertTrue(inspect.isfunction(told))
        signature = inspect.signature(told).parameters
        self.assertEqual(list(signature), parameters)
        self.assertTrue(all(each.default is each.empty for each in signature.values()))

    def test_functions(self):
        for module, functions in FUNCTIONS.items():
            for name, parameters in functions.items():
                with self.subTest(module=module, name=name):
                    self.hold(getattr(importlib.import_module(f"lackstretch.{module}"), name), parameters)

    def test_classes(self):
        for (module, name), methods in CLASSES.items():
            told = getattr(importlib.import_module(f"lackstretch.{module}"), name)
            self.assertTrue(inspect.isclass(told))
            for method, parameters in methods.items():
                with self.subTest(name=name, method=method):
                    self.hold(getattr(told, method), parameters)


if __name__ == "__main__":
    unittest.main()
