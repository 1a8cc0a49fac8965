"""The form of the package: the rules of ../shared/LANGUAGE.md that a look at the files can tell, and the interface."""

import ast
import builtins
import os
import re
import unittest

FOLDER = os.path.join(os.path.dirname(os.path.dirname(os.path.abspath(__file__))), "cornerbids")
LIBRARY = {"heapq": {"heappush", "heappop", "heapify", "heapreplace", "heappushpop"},
           "math": {"gcd", "lcm", "isqrt", "comb", "perm", "factorial"},
           "itertools": {"product", "combinations", "permutations"}}
BUILTINS = set("""len range enumerate zip min max sum abs sorted reversed int str bool bytes list tuple dict set isinstance
                  ord repr any all divmod ValueError TypeError KeyError NotImplemented""".split())
METHODS = set("""append clear copy count endswith extend find get index insert isalnum isalpha isdigit islower isspace isupper
                 items join keys ljust lower lstrip partition pop remove replace reverse rfind rjust rpartition rsplit rstrip
                 setdefault split splitlines startswith strip update upper values zfill bit_length""".split())
DOUBLE = {"__init__", "__eq__", "__str__"}
BARRED = set("""register mro elements open input law version_info with_traceback add_note type typing enum Enum Flag Generic
                Protocol ABC namedtuple""".split())
INTERFACE = {
    "errors": "BidError BadRule NoBids NoOrder NoLot NoWishes NoPerson NoBent NoNumber NoSchedule NoPlay NoTurn BadPlan "
              "NotPlain OtherPeople NoStretches NoPeople NoTable TooMany BadText NoWord NoName NoneLed NothingDone "
              "NoChoices NoLog NoMany NoRules NoWeight",
    "rules": "Rule value renamed mirrored",
    "corners": "corner corners",
    "outcomes": "outcome outcome_behind is_outcome sides holding pressing",
    "lines": "line foreseen_line told_at bids_for",
    "plays": "bids_behind best_play led foreseen best_bids is_best",
    "rests": "is_rest is_single_rest rest movers moving_lots",
    "plain": "is_plain is_quiet weights run turn",
    "drawing": "most_drawn drawing is_drawing",
    "comparing": "alike never_less parting cousin",
    "honest": "best_for honest_at is_lie lie",
    "stretches": "around outcome_within rest_within is_rest_within",
    "tables": "is_table is_bar_to_weights is_bar_to_counts rule_of weights_of bar_to_counts bar_to_weights by_counts idle",
    "groups": "composed groups_first groups_parting",
    "ranges": "range_of wishes_with wish_bounds",
    "sittings": "Sitting",
    "texts": "rule_text",
    "reading": "read_rule",
    "desks": "Desk",
    "chances": "chances mean_outcome likely_own likely_at_least",
    "holders": "least_lots least_blocks levels vetoes swings alone",
    "logs": "fits fitting places may_stand many_places",
    "talks": "move stayers talk",
    "tidy": "tidied size depth words_of",
    "changes": "gainers all_gain is_all_gain nearest_rule fairest_rule beaten_by unbeaten duels outcomes best_number",
    "quotas": "scale trade is_scale is_trade",
    "houses": "frozen widened split merged House",
}
METHODS_OF = {
    ("rules", "Rule"): "__init__ __eq__",
    ("sittings", "Sitting"): "__init__ speaker bid play bids foreseen best told back copy trying",
    ("desks", "Desk"): "__init__ tell undoable",
    ("houses", "House"): "__init__ wish comes goes edits standing outcome pull back depth copy trying",
}


def sources():
    found = {}
    for name in sorted(os.listdir(FOLDER)):
        if name != "__pycache__":
            with open(os.path.join(FOLDER, name), encoding="ascii") as file:
                found[name] = file.read()
    return found


SOURCES = sources()
TREES = {name: ast.parse(text) for name, text in SOURCES.items() if name.endswith(".py")}


def defined(tree):
    return {node.name for node in tree.body if isinstance(node, (ast.FunctionDef, ast.ClassDef))}


def assigned(tree):
    return {node.targets[0].id for node in tree.body if isinstance(node, ast.Assign)}


def imports(tree):
    return [node for node in tree.body if isinstance(node, ast.ImportFrom)]


def stored_names(tree):
    for node in ast.walk(tree):
        if isinstance(node, ast.Name) and isinstance(node.ctx, ast.Store):
            yield node.id
        elif isinstance(node, ast.arg):
            yield node.arg


class TestForm(unittest.TestCase):
    def test_files(self):
        self.assertIn("__init__.py", SOURCES)
        for name, text in SOURCES.items():
            self.assertRegex(name, r"^[a-z0-9_]+\.py$")
            self.assertLessEqual(len(text.splitlines()), 399, name)
            self.assertTrue(all(sign == "\n" or " " <= sign <= "~" for sign in text), name)
            self.assertTrue(all(len(line) <= 120 and line == line.rstrip() for line in text.splitlines()), name)

    def test_functions_are_small(self):
        for name, tree in TREES.items():
            for node in ast.walk(tree):
                if isinstance(node, ast.FunctionDef):
                    self.assertLessEqual(node.end_lineno - node.lineno + 1, 40, f"{name}: {node.name}")
                    self.assertEqual(node.decorator_list, [])

    def test_module_level(self):
        for name, tree in TREES.items():
            for at, node in enumerate(tree.body):
                if at == 0:
                    self.assertTrue(isinstance(node, ast.Expr) and isinstance(node.value, ast.Constant), name)
                    continue
                self.assertIsInstance(node, (ast.ImportFrom, ast.FunctionDef, ast.ClassDef, ast.Assign))
                if isinstance(node, ast.Assign):
                    self.assertEqual([type(target) for target in node.targets], [ast.Name])

    def test_imports(self):
        for name, tree in TREES.items():
            for node in imports(tree):
                names = {alias.name for alias in node.names}
                self.assertTrue(all(alias.asname is None for alias in node.names))
                if node.module in LIBRARY:
                    self.assertLessEqual(names, LIBRARY[node.module])
                else:
                    package, module = node.module.split(".")
                    self.assertEqual(package, "cornerbids")
                    there = TREES[module + ".py"]
                    self.assertLessEqual(names, defined(there) | assigned(there), f"{name}: {node.module}")
            self.assertEqual(sum(isinstance(node, (ast.Import, ast.ImportFrom)) for node in ast.walk(tree)), len(imports(tree)))

    def test_no_two_files_import_from_each_other(self):
        reach = {name: {node.module.split(".")[1] + ".py" for node in imports(tree) if "." in node.module}
                 for name, tree in TREES.items()}
        for _ in reach:
            reach = {name: there.union(*(reach[other] for other in there)) for name, there in reach.items()}
        for name, there in reach.items():
            self.assertNotIn(name, there)

    def test_every_import_is_used(self):
        for name, tree in TREES.items():
            used = {node.id for node in ast.walk(tree) if isinstance(node, ast.Name)}
            for node in imports(tree):
                for alias in node.names:
                    self.assertIn(alias.name, used, name)

    def test_names(self):
        for name, tree in TREES.items():
            imported = {alias.name for node in imports(tree) for alias in node.names}
            classes = {node.name for node in tree.body if isinstance(node, ast.ClassDef)}
            for stored in stored_names(tree):
                self.assertNotIn(stored, imported | classes | set(dir(builtins)) - {"_"}, name)
                self.assertNotIn(stored, BARRED)
                self.assertRegex(stored, r"^(_|_?[A-Za-z][A-Za-z0-9_]*)$")
            self.assertFalse((defined(tree) | assigned(tree)) & set(dir(builtins)), name)
            self.assertFalse(defined(tree) & imported, name)
            for node in ast.walk(tree):
                if isinstance(node, ast.Name) and node.id == "_":
                    self.assertIsInstance(node.ctx, ast.Store)

    def test_only_the_builtins_of_the_subset(self):
        for name, tree in TREES.items():
            for node in ast.walk(tree):
                if isinstance(node, ast.Name) and isinstance(node.ctx, ast.Load) and node.id in dir(builtins):
                    self.assertIn(node.id, BUILTINS, name)

    def test_only_the_methods_of_the_subset(self):
        own = {node.name for tree in TREES.values() for one in ast.walk(tree) if isinstance(one, ast.ClassDef)
               for node in one.body if isinstance(node, ast.FunctionDef)}
        for name, tree in TREES.items():
            for node in ast.walk(tree):
                if isinstance(node, ast.Call) and isinstance(node.func, ast.Attribute):
                    self.assertIn(node.func.attr, METHODS | own | DOUBLE, name)
        self.assertLessEqual({method for method in own if method.startswith("__")}, DOUBLE)
        self.assertFalse({method for method in own if hasattr(str, method) and not method.startswith("__")})

    def test_statements_and_expressions(self):
        barred = (ast.GeneratorExp, ast.Yield, ast.YieldFrom, ast.Global, ast.Nonlocal, ast.With, ast.Match,
                  ast.Div, ast.AsyncFunctionDef, ast.Await, ast.Set, ast.NamedExpr, ast.Delete, ast.JoinedStr)
        for name, tree in TREES.items():
            for node in ast.walk(tree):
                self.assertNotIsInstance(node, barred, name)
                if isinstance(node, ast.Constant):
                    self.assertNotIsInstance(node.value, (float, complex))
                if isinstance(node, ast.Constant) and isinstance(node.value, str):
                    self.assertNotIn("\\", node.value)
                if isinstance(node, ast.Compare) and isinstance(node.ops[0], (ast.Is, ast.IsNot)):
                    self.assertIsInstance(node.comparators[0], ast.Constant)

    def test_a_finally_only_puts_a_name_back(self):
        for name, tree in TREES.items():
            for node in ast.walk(tree):
                if isinstance(node, ast.Try):
                    self.assertFalse(node.handlers or node.orelse, name)
                    for row in node.finalbody:
                        self.assertIsInstance(row, ast.Assign)
                        self.assertIsInstance(row.value, ast.Name)

    def test_sets_are_sorted_or_counted_at_once(self):
        for name, tree in TREES.items():
            sets = [node for node in ast.walk(tree) if isinstance(node, ast.SetComp) or (
                isinstance(node, ast.Call) and isinstance(node.func, ast.Name) and node.func.id == "set")]
            within = [node.args[0] for node in ast.walk(tree) if isinstance(node, ast.Call)
                      and isinstance(node.func, ast.Name) and node.func.id in ("sorted", "len") and len(node.args) == 1]
            self.assertTrue(all(one in within for one in sets), name)

    def test_barred_words(self):
        for name, tree in TREES.items():
            bare = re.sub(r"#.*", "", SOURCES[name])
            for node in ast.walk(tree):
                text = ast.get_docstring(node, clean=False) if isinstance(
                    node, (ast.Module, ast.FunctionDef, ast.ClassDef)) else None
                bare = bare.replace(text, "") if text else bare
            self.assertFalse(set(re.findall(r"\w+", bare)) & BARRED, name)
            self.assertNotIn("%", "".join(node.value for node in ast.walk(tree)
                                          if isinstance(node, ast.Constant) and isinstance(node.value, str)))


class TestInterface(unittest.TestCase):
    def test_each_name_is_defined_in_its_file(self):
        for module, names in INTERFACE.items():
            for name in names.split():
                self.assertIn(name, defined(TREES[module + ".py"]), module)

    def test_each_method_is_defined_in_its_class(self):
        for (module, name), methods in METHODS_OF.items():
            found = [node for node in TREES[module + ".py"].body if isinstance(node, ast.ClassDef) and node.name == name]
            own = {node.name for node in found[0].body if isinstance(node, ast.FunctionDef)}
            self.assertLessEqual(set(methods.split()), own, name)


if __name__ == "__main__":
    unittest.main()
