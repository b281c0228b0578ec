"""The interface: what is defined in which file, with which arguments and attributes."""

import ast
import importlib
import inspect
import unittest

from healedwebs.histories import History
from healedwebs.webs import Web
from tests.test_errors import NAMES
from tests.test_language import FOLDER

FUNCTIONS = {
    'webs': {'web_of': ['places', 'ties'], 'ties_of': ['web', 'place'],
             'how_far': ['web', 'one', 'other'], 'far_from': ['web', 'place'], 'parts_of': ['web'],
             'farthest': ['web'], 'is_wood': ['web']},
    'histories': {'led_on': ['history', 'deed'], 'first_deeds': ['history', 'many'],
                  'elder_web': ['history'], 'elder_ties': ['history', 'name'], 'slots': ['history'],
                  'dead_parts': ['history'], 'rims': ['history'], 'is_wood_history': ['history'],
                  'figures': ['number']},
}

CLASSES = {
    'errors': {name: ['value'] for name in ['HealError', *NAMES]},
    'webs': {'Web': ['text']},
    'histories': {'History': ['text']},
}

METHODS = {'Web': ['__len__', '__contains__', '__eq__'], 'History': ['__len__', '__eq__']}


def defined_in(module):
    """The statements at the top of the module's file that define, by name."""
    tree = ast.parse((FOLDER / (module + '.py')).read_text('utf-8'))
    return {node.name: node for node in tree.body if isinstance(node, (ast.FunctionDef, ast.ClassDef))}


class TestInterface(unittest.TestCase):

    def test_functions(self):
        for module, functions in FUNCTIONS.items():
            found = defined_in(module)
            for name, arguments in functions.items():
                self.assertIsInstance(found.get(name), ast.FunctionDef, name)
                call = getattr(importlib.import_module('healedwebs.' + module), name)
                self.assertEqual(list(inspect.signature(call).parameters), arguments, name)

    def test_classes(self):
        for module, classes in CLASSES.items():
            found = defined_in(module)
            for name, arguments in classes.items():
                self.assertIsInstance(found.get(name), ast.ClassDef, name)
                made = getattr(importlib.import_module('healedwebs.' + module), name)
                self.assertEqual(list(inspect.signature(made).parameters), arguments, name)

    def test_methods_stand_in_the_class_itself(self):
        for made in (Web, History):
            for name in METHODS[made.__name__]:
                self.assertIn(name, vars(made))

    def test_attributes_are_set_on_each_object(self):
        self.assertLessEqual({'text', 'places', 'ties'}, set(vars(Web('places'))))
        self.assertLessEqual({'text', 'deeds', 'living', 'dead'}, set(vars(History(''))))
