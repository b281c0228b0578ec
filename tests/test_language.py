"""The rules of the language that can be seen in the files of the package."""

import ast
import builtins
import pathlib
import unittest

FOLDER = pathlib.Path(__file__).resolve().parent.parent / 'healedwebs'

STATEMENTS = (ast.Assign, ast.AugAssign, ast.If, ast.While, ast.For, ast.Return, ast.Break, ast.Continue,
              ast.Pass, ast.Raise, ast.Expr, ast.FunctionDef, ast.ClassDef, ast.ImportFrom, ast.Try,
              ast.Delete, ast.Assert)

BUILTINS = '''len range enumerate zip min max sum abs sorted reversed int str bool list tuple dict set
isinstance any all divmod set ValueError KeyError'''.split()

LIBRARY = {'math': ['gcd', 'lcm', 'isqrt', 'comb', 'perm', 'factorial'],
           'heapq': ['heappush', 'heappop', 'heapify', 'heapreplace', 'heappushpop']}

METHODS = '''append clear copy count endswith extend find get index insert isalnum isalpha isdigit islower
isspace isupper items join keys ljust lower lstrip partition pop remove replace reverse rfind rjust
rpartition rsplit rstrip setdefault split splitlines startswith strip update upper values zfill bit_length
isascii add discard'''.split()

DOUBLE = ['__init__', '__eq__', '__len__', '__contains__']

UNUSED = '''register mro elements open input law version_info attrgetter breakpoint compile copyright
credits delattr dir eval exec exit gc globals help id license locals os quit super type vars sys typing
enum dataclass namedtuple overload contextmanager'''.split()


def trees():
    """Each file of the package with its text and its tree."""
    for path in sorted(FOLDER.glob('*.py')):
        text = path.read_text('utf-8')
        yield path.name, text, ast.parse(text)


def nodes(kind):
    """All nodes of a kind, each with the place where it stands."""
    for name, _, tree in trees():
        for node in ast.walk(tree):
            if isinstance(node, kind):
                yield f'{name}:{getattr(node, "lineno", 0)}', node


def bound_in(tree):
    """All names that a file binds, with their places."""
    for node in ast.walk(tree):
        if isinstance(node, (ast.FunctionDef, ast.ClassDef)):
            yield node.name
        elif isinstance(node, ast.arg):
            yield node.arg
        elif isinstance(node, ast.Name) and not isinstance(node.ctx, ast.Load):
            yield node.id
        elif isinstance(node, ast.alias):
            yield node.name


class TestFiles(unittest.TestCase):

    def test_folder_holds_plain_files_alone(self):
        for path in FOLDER.iterdir():
            if path.name != '__pycache__':
                self.assertRegex(path.name, r'\A([a-z0-9_]+)\.py\Z')
        self.assertTrue((FOLDER / '__init__.py').exists())

    def test_sizes_and_signs(self):
        for name, text, _ in trees():
            lines = text.split('\n')
            self.assertLessEqual(len(lines), 399, name)
            for number, line in enumerate(lines, start=1):
                self.assertLessEqual(len(line), 120, f'{name}:{number}')
                self.assertTrue(all(' ' <= sign <= '~' for sign in line), f'{name}:{number}')

    def test_functions_are_short_and_told(self):
        for at, node in nodes(ast.FunctionDef):
            self.assertLessEqual(node.end_lineno - node.lineno + 1, 40, at)
            self.assertEqual(node.decorator_list, [], at)
            if not node.name.startswith('__'):
                self.assertTrue(ast.get_docstring(node), at)


class TestStatements(unittest.TestCase):

    def test_statements(self):
        for at, node in nodes(ast.stmt):
            self.assertIsInstance(node, STATEMENTS, at)
        for kind in (ast.AsyncFunctionDef, ast.Lambda, ast.Yield, ast.NamedExpr, ast.AnnAssign, ast.Div):
            self.assertEqual([at for at, _ in nodes(kind)], [], kind)

    def test_module_level(self):
        for name, _, tree in trees():
            for node in tree.body:
                docstring = isinstance(node, ast.Expr) and isinstance(node.value, ast.Constant)
                plain = isinstance(node, ast.Assign) and isinstance(node.value, (ast.Constant, ast.Tuple, ast.Dict))
                self.assertTrue(docstring or plain or isinstance(
                    node, (ast.ImportFrom, ast.FunctionDef, ast.ClassDef)), f'{name}:{node.lineno}')

    def test_tables(self):
        """At module level they hold plain values, and functions from above; they are only read by keys."""
        for name, _, tree in trees():
            above = {child: node for node in ast.walk(tree) for child in ast.iter_child_nodes(node)}
            for node in tree.body:
                if not (isinstance(node, ast.Assign) and isinstance(node.value, ast.Dict)):
                    continue
                defined = [other.name for other in tree.body[:tree.body.index(node)]
                           if isinstance(other, ast.FunctionDef)]
                for value in [*node.value.keys, *node.value.values]:
                    at = f'{name}:{value.lineno}'
                    if isinstance(value, ast.Name):
                        self.assertIn(value.id, defined, at)
                    else:
                        for part in value.elts if isinstance(value, ast.Tuple) else [value]:
                            self.assertIsInstance(part, ast.Constant, at)
                word = node.targets[0].id
                for other in ast.walk(tree):
                    if isinstance(other, ast.Name) and other.id == word and isinstance(other.ctx, ast.Load):
                        over = above[other]
                        self.assertTrue(isinstance(over, ast.Subscript) or isinstance(over, ast.Attribute)
                                        and over.attr == 'get', f'{name}:{other.lineno}')
                        # A function from a table has a name before it is called.
                        self.assertFalse(isinstance(above[over], ast.Call) and above[over].func is over
                                         and isinstance(over, ast.Subscript), f'{name}:{other.lineno}')

    def test_stars_in_calls(self):
        for at, node in nodes(ast.Call):
            for argument in node.args:
                if isinstance(argument, ast.Starred):
                    self.assertIsInstance(argument.value, (ast.Name, ast.Attribute), at)
            self.assertEqual([word for word in node.keywords if word.arg is None], [], at)

    def test_own_errors_alone_are_caught(self):
        own = [node.name for name, _, tree in trees() if name == 'errors.py' for node in tree.body
               if isinstance(node, ast.ClassDef)]
        for at, node in nodes(ast.ExceptHandler):
            self.assertIsInstance(node.type, ast.Name, at)
            self.assertIn(node.type.id, own, at)
            self.assertIsNone(node.name, at)

    def test_imports_name_the_file_that_defines(self):
        defined = {}
        for name, _, tree in trees():
            defined[name] = [node.name for node in tree.body if hasattr(node, 'name')]
            defined[name] += [node.targets[0].id for node in tree.body if isinstance(node, ast.Assign)]
        for at, node in nodes(ast.ImportFrom):
            if node.module in LIBRARY:
                found = LIBRARY[node.module]
            else:
                package, module = node.module.split('.')
                self.assertEqual(package, 'healedwebs', at)
                found = defined[module + '.py']
            self.assertEqual(node.level, 0, at)
            for alias in node.names:
                self.assertIn(alias.name, found, at)
                self.assertIsNone(alias.asname, at)

    def test_no_files_import_from_each_other(self):
        ahead = {}
        for name, _, tree in trees():
            ahead[name[:-3]] = {node.module.split('.')[1] for node in tree.body
                                if isinstance(node, ast.ImportFrom) and '.' in node.module}
        while ahead:
            free = [name for name in ahead if not ahead[name] & set(ahead)]
            self.assertTrue(free, ahead)
            ahead = {name: ahead[name] for name in ahead if name not in free}

    def test_names_of_the_library_are_only_called(self):
        for name, _, tree in trees():
            words = [alias.name for node in tree.body if isinstance(node, ast.ImportFrom)
                     and node.module in LIBRARY for alias in node.names]
            called = [node.func for node in ast.walk(tree) if isinstance(node, ast.Call) and not node.keywords]
            for node in ast.walk(tree):
                if isinstance(node, ast.Name) and node.id in words:
                    self.assertIn(node, called, f'{name}:{node.lineno}')

    def test_errors_are_made_where_they_are_raised(self):
        for at, node in nodes(ast.Raise):
            self.assertIsInstance(node.exc, ast.Call, at)
            self.assertIsInstance(node.exc.func, ast.Name, at)


class TestNames(unittest.TestCase):

    def test_builtins(self):
        for at, node in nodes(ast.Name):
            if isinstance(node.ctx, ast.Load) and hasattr(builtins, node.id):
                self.assertIn(node.id, BUILTINS, at)

    def test_no_name_hides_another_one(self):
        for name, _, tree in trees():
            imported = [alias.name for node in tree.body if isinstance(node, ast.ImportFrom)
                        for alias in node.names]
            once = imported + [node.name for node in tree.body if hasattr(node, 'name')]
            bound = list(bound_in(tree))
            for word in once:
                self.assertEqual(bound.count(word), 1, f'{name}: {word}')
            for word in bound:
                if word == '_':
                    continue
                self.assertFalse(hasattr(builtins, word) and word not in DOUBLE, f'{name}: {word}')
                self.assertNotIn(word, UNUSED, name)
                self.assertTrue(word in DOUBLE or not word.startswith('__'), f'{name}: {word}')

    def test_methods_that_are_called(self):
        own = [node.name for _, node in nodes(ast.FunctionDef)]
        for at, node in nodes(ast.Call):
            if isinstance(node.func, ast.Attribute):
                self.assertIn(node.func.attr, METHODS + own, at)

    def test_the_lone_underscore_is_not_read(self):
        for at, node in nodes(ast.Name):
            self.assertFalse(node.id == '_' and isinstance(node.ctx, ast.Load), at)

    def test_values(self):
        for at, node in nodes(ast.Constant):
            self.assertNotIsInstance(node.value, (float, complex, bytes), at)
            if isinstance(node.value, str):
                self.assertNotIn(chr(37), node.value, at)

    def test_any_all_and_the_like_take_lists(self):
        for at, node in nodes(ast.Call):
            if isinstance(node.func, ast.Name) and node.func.id in BUILTINS:
                for argument in node.args:
                    self.assertNotIsInstance(argument, ast.GeneratorExp, at)

    def test_sets_stand_in_sorted_or_len_alone(self):
        joined = (ast.Sub, ast.BitAnd, ast.BitOr, ast.BitXor)
        for name, _, tree in trees():
            above = {child: node for node in ast.walk(tree) for child in ast.iter_child_nodes(node)}
            for node in ast.walk(tree):
                if not isinstance(node, (ast.Set, ast.SetComp)) and not (
                        isinstance(node, ast.Call) and isinstance(node.func, ast.Name) and node.func.id == 'set'):
                    continue
                over = above[node]
                while isinstance(over, ast.BinOp) and isinstance(over.op, joined):
                    over = above[over]
                self.assertIsInstance(over, ast.Call, f'{name}:{node.lineno}')
                self.assertIn(over.func.id, ('sorted', 'len'), f'{name}:{node.lineno}')

    def test_ranges_and_the_like_are_iterated_at_once(self):
        takers = ('list', 'tuple', 'dict', 'sorted', 'sum', 'any', 'all', 'enumerate', 'zip', 'min', 'max')
        for name, _, tree in trees():
            above = {child: node for node in ast.walk(tree) for child in ast.iter_child_nodes(node)}
            for node in ast.walk(tree):
                if not isinstance(node, ast.Call):
                    continue
                word = node.func.id if isinstance(node.func, ast.Name) else node.func.attr
                if word not in ('range', 'zip', 'enumerate', 'reversed', 'items', 'keys', 'values'):
                    continue
                over = above[node]
                if isinstance(over, (ast.For, ast.comprehension)):
                    self.assertIs(over.iter, node, f'{name}:{node.lineno}')
                else:
                    self.assertIsInstance(over, ast.Call, f'{name}:{node.lineno}')
                    self.assertIn(getattr(over.func, 'id', None), takers, f'{name}:{node.lineno}')

    def test_no_name_is_a_method_and_an_attribute(self):
        for name, _, tree in trees():
            for node in tree.body:
                if isinstance(node, ast.ClassDef):
                    methods = [part.name for part in node.body if isinstance(part, ast.FunctionDef)]
                    held = [part.attr for part in ast.walk(node) if isinstance(part, ast.Attribute)
                            and isinstance(part.ctx, ast.Store)]
                    self.assertEqual(len(set(methods)), len(methods), f'{name}: {node.name}')
                    self.assertEqual(set(methods) & set(held), set(), f'{name}: {node.name}')

    def test_attributes_that_are_read_are_assigned(self):
        held = {node.attr for _, node in nodes(ast.Attribute) if isinstance(node.ctx, ast.Store)}
        for name, _, tree in trees():
            called = [node.func for node in ast.walk(tree) if isinstance(node, ast.Call)]
            for node in ast.walk(tree):
                if isinstance(node, ast.Attribute) and node not in called:
                    self.assertIn(node.attr, held, f'{name}:{node.lineno}')
                    self.assertNotIn(node.attr, METHODS, f'{name}:{node.lineno}')
