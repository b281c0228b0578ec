"""The interface: what is defined in which file, with which arguments and attributes."""

import ast
import importlib
import inspect
import unittest

from healedwebs.desk import Desk, read_desk
from healedwebs.histories import History, led_on
from healedwebs.live import HealedWeb
from healedwebs.webs import Web
from tests.test_errors import NAMES
from tests.test_language import FOLDER

FUNCTIONS = {
    'webs': {'web_of': ['places', 'ties'], 'ties_of': ['web', 'place'],
             'how_far': ['web', 'one', 'other'], 'far_from': ['web', 'place'], 'parts_of': ['web'],
             'farthest': ['web'], 'is_wood': ['web']},
    'histories': {'led_on': ['history', 'deed'], 'first_deeds': ['history', 'many'],
                  'elder_web': ['history'], 'elder_ties': ['history', 'name'], 'slots': ['history'],
                  'dead_parts': ['history'], 'rims': ['history'], 'is_wood_history': ['history'],
                  'figures': ['number']},
    'judged': {'is_rows': ['history', 'value'], 'judged': ['history', 'rows', 'kind'],
               'measures': ['history', 'rows']},
    'healer': {'healed': ['history']},
    'wills': {'healed_wood': ['history']},
    'rules': {'mended_by': ['rule', 'web', 'name'], 'played_by': ['rule', 'history']},
    'breakers': {'breaker': ['rule', 'kind', 'goal'], 'shows_breaker': ['rule', 'kind', 'goal', 'value']},
    'stars': {'is_tree_for': ['limits', 'value'], 'tree_farthest': ['limits', 'ties'], 'least_far': ['limits'],
              'shows_least_far': ['limits', 'value'], 'tree_room': ['far', 'most'], 'web_floor': ['many', 'most']},
    'desk': {'desk_text': ['desk'], 'read_desk': ['text']},
}

CLASSES = {
    'errors': {name: ['value'] for name in ['HealError', *NAMES]},
    'webs': {'Web': ['text']},
    'histories': {'History': ['text']},
    'live': {'HealedWeb': ['kind']},
    'desk': {'Desk': []},
}

METHODS = {'Web': {'__len__': [], '__contains__': ['value'], '__eq__': ['other']},
           'History': {'__len__': [], '__eq__': ['other']},
           'HealedWeb': {'__len__': [], '__contains__': ['value'], 'come': ['name', 'ties'], 'die': ['name'],
                         'tied_to': ['name'], 'copy': []},
           'Desk': {'__len__': [], '__contains__': ['value'], 'lead': ['deed'], 'thing_of': ['name'],
                    'thing_kind': ['name'], 'far_of': ['name', 'one', 'other'], 'undo': [], 'redo': [],
                    'note': ['word'], 'notes': [], 'back': ['word'], 'all_deeds': []}}

ATTRIBUTES = {'Web': {'text', 'places', 'ties'}, 'History': {'text', 'deeds', 'living', 'dead'},
              'HealedWeb': {'kind', 'past', 'names', 'ties', 'changed'}, 'Desk': {'names'}}


def defined_in(module):
    """The statements at the top of the module's file that define, by name."""
    tree = ast.parse((FOLDER / (module + '.py')).read_text('utf-8'))
    return {node.name: node for node in tree.body if isinstance(node, (ast.FunctionDef, ast.ClassDef))}


class TestInterface(unittest.TestCase):

    def test_functions(self):
        for module, functions in FUNCTIONS.items():
            found = defined_in(module)
            for name, arguments in functions.items():
                self.assertIsInstance(found.get(name), ast.FunctionDef, name)
                call = getattr(importlib.import_module('healedwebs.' + module), name)
                self.assertEqual(list(inspect.signature(call).parameters), arguments, name)

    def test_classes(self):
        for module, classes in CLASSES.items():
            found = defined_in(module)
            for name, arguments in classes.items():
                self.assertIsInstance(found.get(name), ast.ClassDef, name)
                made = getattr(importlib.import_module('healedwebs.' + module), name)
                self.assertEqual(list(inspect.signature(made).parameters), arguments, name)

    def test_methods_stand_in_the_class_itself(self):
        for made in (Web, History, HealedWeb, Desk):
            for name, arguments in METHODS[made.__name__].items():
                self.assertIn(name, vars(made))
                found = list(inspect.signature(vars(made)[name]).parameters)
                self.assertEqual(found, ['self', *arguments], name)

    def test_attributes_are_set_on_each_object(self):
        live = HealedWeb('web')
        live.come('a', ())
        for made in (Web('places'), Web('places a'), History(''), led_on(History(''), ('come', 'a', ())),
                     HealedWeb('web'), HealedWeb('wood'), live, live.copy(), Desk(), read_desk('stand 0')):
            self.assertLessEqual(ATTRIBUTES[type(made).__name__], set(vars(made)))
