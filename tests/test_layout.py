"""The interface stands where the document lists it, and the package keeps the simplest rules of its language."""

import ast
import os
import re
import unittest
import warnings

FOLDER = os.path.join(os.path.dirname(os.path.dirname(os.path.abspath(__file__))), "wagoncalls")
REFUSALS = ["WagonError", "NoText", "NoPaper", "NoCall", "NoTown", "NoMoment", "NoTelling", "Late", "TooMany", "NoLog",
            "NoRow", "NoDeed"]
INTERFACE = {
    "errors": REFUSALS,
    "words": ["is_name", "is_moment", "is_grade", "moment_text", "moment_by"],
    "towns": ["is_town"],
    "towntexts": ["town_text", "town_by"],
    "ways": ["chart_of", "first_road", "way", "is_way", "minutes_of"],
    "chartchecks": ["lets_chart"],
    "near": ["reached", "lost", "bare"],
    "posts": ["fewest_posts"],
    "plans": ["least_plan"],
    "trees": ["shows_posts", "is_plan", "covers_behind", "shows_moves"],
    "wagons": ["far", "waiting", "may_be_sent", "chosen"],
    "sending": ["cut_off", "sendings"],
    "tellings": ["is_telling", "in_order"],
    "logs": ["telling_text", "telling_by", "log_text", "log_by", "together"],
    "moments": ["begun", "comes", "work", "due_at"],
    "stories": ["story_of"],
    "days": ["Day"],
    "sheets": ["sheets_of"],
    "tellers": ["story_by"],
    "stays": ["stays_of", "waits_of"],
    "desk": ["Desk"],
}
METHODS = {
    ("days", "Day"): ["__init__", "town", "tell", "go_to", "amend", "strike", "log", "now", "story", "state", "state_at",
                      "wagons", "served", "due"],
    ("desk", "Desk"): ["__init__", "say"],
}
LIBRARY = {"heapq", "math", "itertools", "collections", "__future__"}


def files():
    return sorted(name for name in os.listdir(FOLDER) if name != "__pycache__")


def text_of(name):
    with open(os.path.join(FOLDER, name), encoding="utf-8") as source:
        return source.read()


class LayoutTests(unittest.TestCase):
    def test_interface(self):
        for module, names in INTERFACE.items():
            tree = ast.parse(text_of(module + ".py"))
            found = [node.name for node in tree.body if isinstance(node, (ast.FunctionDef, ast.ClassDef))]
            for name in names:
                self.assertEqual(found.count(name), 1, f"{module}.{name}")

    def test_methods_stand_in_their_class_itself(self):
        for (module, name), methods in METHODS.items():
            bodies = [node.body for node in ast.parse(text_of(module + ".py")).body
                      if isinstance(node, ast.ClassDef) and node.name == name]
            found = [node.name for node in bodies[0] if isinstance(node, ast.FunctionDef)]
            for method in methods:
                self.assertEqual(found.count(method), 1, f"{module}.{name}.{method}")

    def test_files(self):
        self.assertIn("__init__.py", files())
        for name in files():
            self.assertTrue(re.fullmatch("[a-z_][a-z0-9_]*[.]py", name), name)
            text = text_of(name)
            self.assertTrue(all(sign == "\n" or " " <= sign <= "~" for sign in text), name)
            self.assertLessEqual(len(text.split("\n")), 399, name)
            self.assertLessEqual(max(map(len, text.split("\n"))), 120, name)

    def test_python_gives_no_warning(self):
        with warnings.catch_warnings():
            warnings.simplefilter("error")
            for name in files():
                compile(text_of(name), name, "exec")

    def test_functions_are_short(self):
        for name in files():
            for node in ast.walk(ast.parse(text_of(name))):
                if isinstance(node, ast.FunctionDef):
                    self.assertLessEqual(node.end_lineno - node.lineno + 1, 40, f"{name}: {node.name}")

    def test_imports(self):
        for name in files():
            for node in ast.walk(ast.parse(text_of(name))):
                self.assertFalse(isinstance(node, ast.Import) and name != "__main__.py", name)
                if isinstance(node, ast.ImportFrom):
                    self.assertEqual(node.level, 0, name)
                    self.assertIn(node.module.split(".")[0], LIBRARY | {"wagoncalls"}, name)


if __name__ == "__main__":
    unittest.main()
