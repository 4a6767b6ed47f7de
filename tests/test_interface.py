"""The interface that the document lists: names, arguments and where each one is defined.

The refusals are in test_errors.py.
"""

import inspect
import unittest
from importlib import import_module

FUNCTIONS = {
    "parts": [
        "lowest(top, bottom)", "plus(one, other)", "less(one, other)", "times(one, other)",
        "over(one, other)", "smaller(one, other)", "part_text(one)", "part_read(line)"],
    "sums": [
        "letter(a, b)", "sum_plus(one, other)", "sum_times(one, other)", "worth(one, lengths)",
        "sum_text(one)", "sum_read(line)"],
    "cuts": [
        "crosses(one, other)", "kept(n, ropes)", "ties(n, cut)", "plots(n, cut)",
        "beside(n, cut, a, b)", "turned(n, cut, a, b)"],
    "counts": ["how_many(n)", "cutting_at(n, number)", "number_of(n, cut)"],
    "roads": ["to_fan(n, cut, post)", "road(n, one, other)"],
    "ways": ["ways(n, cut, a, b)", "told(n, cut, a, b)"],
    "lengths": [
        "measured(n, cut, lengths, a, b)", "laid(n, cut, lengths, a, b)",
        "table(n, cut, lengths)"],
    "tables": [
        "looked(table)", "broken(table)", "pairs(table)", "of_pairs(rows)",
        "cut_lengths(table, cut)"],
    "likeness": [
        "ratio(n, cut, lengths, a, b)", "ratios(n, cut, lengths)",
        "turned_ratios(n, cut, rates, a, b)", "stretched(n, lengths, post, factor)",
        "stretches(n, cut, one, other)", "alike(n, cut, one, other)"],
    "sheets": ["mead_text(mead)", "mead_read(text)"],
}
CLASSES = {
    ("mead", "Mead"): [
        "__init__(self, n, ropes, lengths)", "posts(self)", "ropes(self)", "lengths(self)",
        "deeds(self)", "length(self, a, b)", "turn(self, a, b)", "stretch(self, post, factor)",
        "set_out(self, k, one, other)", "draw(self, post)", "back(self)", "again(self)",
        "lead(self, number)", "twin(self)", "alike_to(self, other)"],
    ("yard", "Yard"): [
        "__init__(self)", "names(self)", "put(self, name, sheet)", "sheet(self, name)",
        "deed(self, line)"],
}


class TestInterface(unittest.TestCase):
    def told(self, function, call, module):
        self.assertTrue(inspect.isfunction(function))
        self.assertEqual(function.__name__ + str(inspect.signature(function)), call)
        self.assertEqual(function.__module__, module)

    def test_functions(self):
        for file, calls in FUNCTIONS.items():
            module = import_module(f"postmead.{file}")
            for call in calls:
                with self.subTest(file, call=call):
                    name = call.split("(")[0]
                    self.told(vars(module)[name], call, f"postmead.{file}")

    def test_classes_and_their_own_methods(self):
        for (file, name), calls in CLASSES.items():
            kind = vars(import_module(f"postmead.{file}"))[name]
            self.assertTrue(inspect.isclass(kind))
            self.assertEqual(kind.__module__, f"postmead.{file}")
            for call in calls:
                with self.subTest(name, call=call):
                    self.told(vars(kind)[call.split("(")[0]], call, f"postmead.{file}")


if __name__ == "__main__":
    unittest.main()
