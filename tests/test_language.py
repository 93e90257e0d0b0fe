"""Those rules of ../shared/LANGUAGE.md that can be seen in the syntax, for all files of the package."""

import ast
import builtins
import functools
import os
import unittest
import warnings

import risingcalls

FOLDER = os.path.dirname(risingcalls.__file__)
LET_BUILTINS = set("""len range enumerate zip min max sum abs sorted reversed int str bool list tuple dict set
    isinstance ord repr any all divmod iter next map super ValueError property staticmethod""".split())
LET_METHODS = set("""append clear copy count endswith extend find get index insert isalnum isalpha isdigit islower
    isspace isupper items join keys ljust lower lstrip partition pop remove replace reverse rfind rjust rpartition
    rsplit rstrip setdefault split splitlines startswith strip update upper values zfill bit_length""".split())
LET_LIBRARY = {"math": ("gcd",)}
LET_DUNDERS = {"__init__", "__eq__", "__len__", "__iter__", "__enter__", "__exit__"}
BARRED = set("""register mro elements open input law version_info with_traceback add_note type typing enum Generic
    Protocol ABC namedtuple attrgetter breakpoint compile delattr dir eval exec exit gc getattr globals hasattr help
    id os quit setattr sys vars locals hash next format""".split())


def files():
    return sorted(name for name in os.listdir(FOLDER) if name != "__pycache__")


def read(name):
    with open(os.path.join(FOLDER, name), encoding="utf-8") as file:
        return file.read()


@functools.lru_cache
def trees():
    return [(name, ast.parse(read(name))) for name in files()]


def nodes(*kinds):
    return [(f"{name}:{getattr(node, 'lineno', 0)}", node) for name, tree in trees() for node in ast.walk(tree)
            if isinstance(node, kinds)]


def top_names(tree):
    """The functions, classes and values of a file, without its imports."""
    found = []
    for node in tree.body:
        if isinstance(node, (ast.FunctionDef, ast.ClassDef)):
            found.append(node.name)
        elif isinstance(node, ast.Assign):
            found.extend(target.id for target in node.targets)
    return found


def imports(tree):
    return [(node.module, alias.name) for node in tree.body if isinstance(node, ast.ImportFrom)
            for alias in node.names]


def locals_of(function):
    """The parameters and all names that are assigned in a function."""
    args = function.args
    found = [arg.arg for arg in args.posonlyargs + args.args + args.kwonlyargs]
    return found + [node.id for node in ast.walk(function)
                    if isinstance(node, ast.Name) and isinstance(node.ctx, ast.Store)]


@functools.lru_cache
def own_methods():
    return {node.name for _, owner in nodes(ast.ClassDef) for node in owner.body if isinstance(node, ast.FunctionDef)}


@functools.lru_cache
def generators():
    return {node.name for _, node in nodes(ast.FunctionDef)
            if any(isinstance(part, (ast.Yield, ast.YieldFrom)) for part in ast.walk(node))}


class Files(unittest.TestCase):
    def test_the_folder_holds_plain_files_only(self):
        for name in files():
            self.assertTrue(name.endswith(".py") and name[:-3].replace("_", "").isalnum() and name == name.lower())
        self.assertLessEqual(len(files()), 100)

    def test_sizes_and_characters(self):
        for name in files():
            lines = read(name).split("\n")
            self.assertLessEqual(len(lines), 399, name)
            for line in lines:
                self.assertLessEqual(len(line), 120, name)
                self.assertTrue(all(" " <= sign <= "~" for sign in line), line)
        for place, node in nodes(ast.FunctionDef):
            self.assertLessEqual(node.end_lineno - node.lineno + 1, 40, place)

    def test_no_warning(self):
        with warnings.catch_warnings():
            warnings.simplefilter("error")
            for name in files():
                compile(read(name), name, "exec")


class Names(unittest.TestCase):
    def test_imports_name_the_defining_file_and_are_used(self):
        defined = {**LET_LIBRARY, **{f"risingcalls.{name[:-3]}": top_names(tree) for name, tree in trees()}}
        for name, tree in trees():
            for module, thing in imports(tree):
                self.assertIn(module, defined, name)
                self.assertIn(thing, defined[module], name)
                used = [node for node in ast.walk(tree) if isinstance(node, ast.Name) and node.id == thing]
                self.assertTrue(used, f"{name}: {thing}")
        self.assertFalse([place for place, node in nodes(ast.Import)])
        self.assertFalse([place for place, node in nodes(ast.ImportFrom) if node.level or node.names[0].asname])

    def test_no_two_files_import_from_each_other(self):
        needs = {f"risingcalls.{name[:-3]}": {module for module, _ in imports(tree)} - set(LET_LIBRARY)
                 for name, tree in trees()}
        while needs:
            free = [name for name in needs if not needs[name]]
            self.assertTrue(free, needs)
            needs = {name: needs[name] - set(free) for name in needs if name not in free}

    def test_one_binding_for_each_name_at_module_level(self):
        for name, tree in trees():
            bound = top_names(tree) + [thing for _, thing in imports(tree)]
            self.assertEqual(len(bound), len(set(bound)), name)
            self.assertFalse([one for one in bound if hasattr(builtins, one)])

    def test_locals_hide_no_import_class_or_builtin(self):
        for name, tree in trees():
            taken = {thing for _, thing in imports(tree)}
            taken |= {node.name for node in tree.body if isinstance(node, ast.ClassDef)}
            for node in ast.walk(tree):
                if isinstance(node, ast.FunctionDef):
                    for one in locals_of(node):
                        self.assertFalse(one in taken or hasattr(builtins, one), f"{name}: {one}")
                        self.assertNotIn(one, generators())

    def test_barred_words(self):
        for place, node in nodes(ast.Name, ast.arg, ast.FunctionDef, ast.Attribute, ast.keyword):
            word = [getattr(node, field) for field in ("id", "arg", "name", "attr") if hasattr(node, field)][0]
            self.assertNotIn(word, BARRED, place)
            if word.startswith("__"):
                self.assertIn(word, LET_DUNDERS, place)
        for place, node in nodes(ast.Constant):
            self.assertFalse(isinstance(node.value, (float, complex, bytes)), place)
            if isinstance(node.value, str):
                self.assertFalse("%" in node.value or node.value.endswith("._"), place)

    def test_builtins_and_methods(self):
        for place, node in nodes(ast.Call):
            if isinstance(node.func, ast.Name) and hasattr(builtins, node.func.id):
                self.assertIn(node.func.id, LET_BUILTINS, place)
            if isinstance(node.func, ast.Attribute):
                self.assertTrue(node.func.attr in LET_METHODS or node.func.attr in own_methods(), place)
                self.assertNotEqual(node.func.attr, "sort", place)


class Attributes(unittest.TestCase):
    def test_no_attribute_is_stored_under_the_name_of_a_property_or_a_method(self):
        properties = {node.name for _, node in nodes(ast.FunctionDef)
                      if any(getattr(one, "id", "") == "property" for one in node.decorator_list)}
        self.assertTrue(properties)
        for place, node in nodes(ast.Attribute):
            if isinstance(node.ctx, ast.Store):
                self.assertNotIn(node.attr, properties, place)
                self.assertNotIn(node.attr, own_methods(), place)

    def test_inits_of_base_classes_are_called_in_inits(self):
        for place, node in nodes(ast.Attribute):
            if node.attr == "__init__":
                self.assertEqual(node.value.id[0], node.value.id[0].upper(), place)


class Syntax(unittest.TestCase):
    def test_what_is_not_let(self):
        barred = (ast.Global, ast.AsyncFunctionDef, ast.AsyncFor, ast.Await, ast.Div, ast.MatMult, ast.GeneratorExp)
        self.assertEqual([place for place, node in nodes(*barred)], [])

    def test_decorators(self):
        for place, node in nodes(ast.FunctionDef, ast.ClassDef):
            for decorator in node.decorator_list:
                self.assertIn(decorator.id, ("property", "staticmethod"), place)

    def test_is_stands_beside_none_true_and_false(self):
        for place, node in nodes(ast.Compare):
            for sign, right in zip(node.ops, node.comparators):
                if isinstance(sign, (ast.Is, ast.IsNot)):
                    self.assertTrue(isinstance(right, ast.Constant) and right.value in (None, True, False), place)

    def test_errors_are_made_where_they_are_raised(self):
        for place, node in nodes(ast.Raise):
            self.assertTrue(isinstance(node.exc, ast.Call) and isinstance(node.exc.func, ast.Name), place)
            self.assertFalse(node.exc.keywords, place)

    def test_only_own_errors_are_caught(self):
        for place, node in nodes(ast.ExceptHandler):
            self.assertTrue(isinstance(node.type, ast.Name) and not hasattr(builtins, node.type.id), place)

    def test_generators_are_iterated_at_once(self):
        let = set()
        for _, node in nodes(ast.For, ast.comprehension):
            let.add(ast.dump(node.iter, include_attributes=True))
        for _, node in nodes(ast.Call):
            if isinstance(node.func, ast.Name) and node.func.id in ("list", "tuple"):
                let.update(ast.dump(arg, include_attributes=True) for arg in node.args)
        for place, node in nodes(ast.Call):
            if isinstance(node.func, ast.Name) and node.func.id in generators():
                self.assertIn(ast.dump(node, include_attributes=True), let, place)
                for arg in node.args:
                    self.assertIsInstance(arg, (ast.Name, ast.Attribute, ast.Constant), place)

    def test_sets_are_sorted_or_counted_at_once(self):
        let = set()
        for _, node in nodes(ast.Call):
            if isinstance(node.func, ast.Name) and node.func.id in ("sorted", "len") and not node.keywords:
                let.update(ast.dump(arg, include_attributes=True) for arg in node.args)
        for place, node in nodes(ast.Set, ast.SetComp, ast.Call):
            if not isinstance(node, ast.Call) or getattr(node.func, "id", "") == "set":
                self.assertIn(ast.dump(node, include_attributes=True), let, place)

    def test_views_and_ranges_are_iterated_on_the_spot(self):
        let = set()
        for _, node in nodes(ast.For, ast.comprehension):
            let.add(ast.dump(node.iter, include_attributes=True))
        for _, node in nodes(ast.Call):
            if isinstance(node.func, ast.Name) and node.func.id in ("list", "tuple", "sorted"):
                let.update(ast.dump(arg, include_attributes=True) for arg in node.args[:1])
        for place, node in nodes(ast.Call):
            name = getattr(node.func, "id", "") or getattr(node.func, "attr", "")
            if name in ("range", "zip", "enumerate", "reversed", "items", "keys", "values"):
                self.assertIn(ast.dump(node, include_attributes=True), let, place)


if __name__ == "__main__":
    unittest.main()
