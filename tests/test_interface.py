"""The names and arguments that the document tells are there as they stand."""

import inspect
import unittest
from importlib import import_module

# For each function its file and its arguments.
FUNCTIONS = {
    "checked": ("sheets", ["sheet"]),
    "stamps": ("sheets", ["sheet"]),
    "near": ("sheets", ["sheet", "cell"]),
    "is_piece": ("pieces", ["sheet", "thing"]),
    "pieces": ("pieces", ["sheet", "most"]),
    "counts": ("pieces", ["sheet"]),
    "worth": ("worths", ["sheet", "piece"]),
    "worths": ("worths", ["sheet", "most"]),
    "first_missing": ("worths", ["sheet", "most"]),
    "piece_for": ("worths", ["sheet", "number"]),
    "needless": ("worths", ["sheet"]),
    "changed": ("changes", ["sheet", "cell", "number"]),
    "gone_and_come": ("changes", ["sheet", "most", "cell", "number"]),
    "torn": ("tearing", ["sheet", "wants"]),
    "fewest_tears": ("tearing", ["sheet", "wants"]),
    "tears": ("tearing", ["sheet", "parts"]),
    "fair": ("tearing", ["sheet", "many"]),
    "best_strip": ("strips", ["many"]),
    "turned": ("turns", ["sheet"]),
    "mirrored": ("turns", ["sheet"]),
    "least": ("turns", ["sheet"]),
    "alike": ("turns", ["one", "other"]),
    "shown": ("texts", ["sheet"]),
    "read": ("texts", ["text"]),
}


class Interface(unittest.TestCase):
    def test_every_function_with_its_arguments(self):
        for name, (file, arguments) in FUNCTIONS.items():
            with self.subTest(name=name):
                call = getattr(import_module(f"stampsheet.{file}"), name)
                self.assertTrue(inspect.isfunction(call))
                parameters = inspect.signature(call).parameters
                self.assertEqual(list(parameters), arguments)
                # They may be handed in by place or by name, and none is left out.
                for parameter in parameters.values():
                    self.assertIs(parameter.kind, inspect.Parameter.POSITIONAL_OR_KEYWORD)
                    self.assertIs(parameter.default, inspect.Parameter.empty)


if __name__ == "__main__":
    unittest.main()
