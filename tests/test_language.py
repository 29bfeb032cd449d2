"""The package keeps to the subset of Python that it is written in, as far as its code shows that plainly."""

import ast
import builtins
import os
import re
import unittest

PACKAGE = os.path.join(os.path.dirname(os.path.dirname(os.path.abspath(__file__))), "knownplay")

# What the package uses so far, of what it may use: a later part may add to these what the rules let.
BUILTINS = set("""
    len range enumerate zip min max sum abs sorted reversed int str bool list tuple dict set isinstance ord repr any all
    divmod ValueError KeyError IndexError
""".split())
METHODS = set("""
    append clear copy count endswith extend find get index insert isalnum isalpha isdigit islower isspace isupper items
    join keys ljust lower lstrip partition pop remove replace reverse rfind rjust rpartition rsplit rstrip setdefault
    split splitlines startswith strip update upper values zfill bit_length isascii removeprefix add discard
""".split())
BARRED = set("""
    mro elements open input law register type eval exec exit vars dir id help locals globals super getattr setattr
""".split())
CHANGING = set("append clear extend insert pop remove reverse setdefault update sort add discard".split())
TAKEN = {name for name in dir(builtins) if not name.startswith("_")}
STATEMENTS = (
    ast.Assign, ast.AugAssign, ast.If, ast.While, ast.For, ast.Return, ast.Break, ast.Continue, ast.Pass, ast.Raise,
    ast.Assert, ast.Delete, ast.Try, ast.Expr, ast.FunctionDef, ast.ClassDef, ast.ImportFrom,
)
INTERFACE = {
    "errors": (
        "KnowError", "Unfit", "BadText", "BadTerm", "BadGame", "BadWire", "BadRule", "BadLog", "Refused", "TooMany",
        "TooManyEdits", "NothingToUndo", "NothingToRedo",
    ),
    "terms": ("term_error", "condition_error", "worth", "holds", "asked"),
    "termtexts": ("term_text", "condition_text", "read_term", "read_condition"),
    "games": ("game_error", "first_state", "renamed"),
    "gametexts": ("game_text", "read_game"),
    "knowngames": ("known_names", "known_game"),
    "plays": ("moves", "is_done", "stepped", "play_error", "state_of", "states", "nearest"),
    "views": ("sight", "view", "alike_to"),
    "playtexts": ("play_text", "view_text", "read_play"),
    "wires": ("wire_error", "wire_without", "letter", "first_letter", "letter_order", "heard", "heard_by"),
    "knownwires": ("plain_wire", "changes_wire", "bare_wire", "silent_wire"),
    "wiretexts": ("wire_text", "read_wire"),
    "sets": ("begun", "gone_on", "next_letters", "known", "sure", "witnesses", "wrong_play"),
    "settables": ("set_table", "number_of", "row_to", "table_error"),
    "leaks": ("pairs_by_views", "pairs_by_rows", "leak", "lack", "leak_error", "lack_error"),
    "justpapers": ("just_paper", "just_paper_error", "is_just", "lasting", "lasting_paper", "lasting_error"),
    "justparts": ("spilling", "greatest", "can_be_just"),
    "classes": (
        "classes", "parting", "parting_error", "class_paper", "class_paper_error", "memories", "memories_error",
        "shown_by",
    ),
    "joiners": (
        "rule_error", "join_letter", "joined", "join_gap", "join_spill", "join_tale_error", "join_paper",
        "join_paper_error",
    ),
    "watchers": ("watched", "helps", "helps_error", "reach", "reach_paper", "reach_error"),
    "likeness": ("as_good", "as_good_error", "good_paper", "good_paper_error", "cheaper"),
    "lies": (
        "told_error", "honest", "honest_error", "found_at", "finders", "lie_for_good", "good_error", "lie_lasts",
        "longest_lie", "lie_error", "lie_paper", "lie_paper_error",
    ),
    "comparing": ("comparing", "comparing_error", "comparing_paper", "comparing_paper_error"),
    "roads": ("device_error", "taken", "lacking", "gap_row", "run_error", "road_end", "mending"),
    "gaps": ("known_by_gaps", "asked_enough", "full_error", "least_asked", "gap_paper", "gap_paper_error"),
    "tries": ("result", "alone_rows", "guess_alone", "guess_cells"),
    "firmness": (
        "tries_lot", "firm_row", "firm_then", "firm_cells", "firm_error", "firm_paper", "firm_paper_error",
        "firm_tale", "firm_tale_error", "disturbs", "disturbs_error",
    ),
    "odds": ("odds", "foretold", "rows_by", "hit", "guess"),
    "leanings": ("leaning", "leaning_error"),
    "leanpapers": ("lean_paper", "lean_paper_error"),
    "cuts": ("owners_error", "uncut", "pieces"),
    "histories": (
        "history_error", "done_by_pieces", "done_whole", "follows", "ring_of", "order_of", "ring_error", "order_error",
    ),
    "mixing": ("mixed_ring", "mixed_error", "bad_history", "sorting", "sorting_error", "ordered"),
    "houses": ("house_error", "mended"),
    "audits": ("audit", "audit_error"),
    "halls": ("Hall",),
    "halllogs": ("rule_text", "read_rule", "log_text", "read_log", "hall_behind", "hall_log"),
    "shells": ("Shell",),
}


def sources():
    """The pairs of the name of a file and what stands in it."""
    found = []
    for name in sorted(os.listdir(PACKAGE)):
        if name != "__pycache__":
            with open(os.path.join(PACKAGE, name), encoding="utf-8") as file:
                found.append((name, file.read()))
    return found


def defined(tree):
    """The names that a file defines itself."""
    names = [node.name for node in tree.body if isinstance(node, (ast.FunctionDef, ast.ClassDef))]
    return names + [node.targets[0].id for node in tree.body if isinstance(node, ast.Assign)]


def starred_indexes(tree):
    """The indexes within whose brackets a star stands, in parentheses or not."""
    return [ast.unparse(node) for node in ast.walk(tree) if isinstance(node, ast.Subscript)
            and any(isinstance(part, ast.Starred) for part in ast.walk(node.slice))]


class Language(unittest.TestCase):
    def setUp(self):
        self.sources = sources()
        self.trees = {name: ast.parse(text) for name, text in self.sources}

    def nodes(self, *kinds):
        """The pairs of where a node of these kinds stands and the node."""
        for name, tree in self.trees.items():
            for node in ast.walk(tree):
                if isinstance(node, kinds):
                    yield f"{name}:{getattr(node, 'lineno', '')}", node

    def test_files(self):
        self.assertIn("__init__.py", self.trees)
        for name, text in self.sources:
            self.assertRegex(name, r"^[a-z][a-z0-9_]*\.py$|^__init__\.py$")
            self.assertRegex(text, r"\A[ -~\n]*\n\Z", name)
            lines = text.split("\n")
            self.assertLess(len(lines), 400, name)
            self.assertLessEqual(max(len(line) for line in lines), 120, name)
            self.assertIsNotNone(ast.get_docstring(self.trees[name]), name)

    def test_functions_are_short_and_plain(self):
        for place, node in self.nodes(ast.FunctionDef):
            self.assertLessEqual(node.end_lineno - node.lineno + 1, 40, place)
            self.assertEqual((node.decorator_list, node.returns), ([], None), place)
            for argument in node.args.args:
                self.assertIsNone(argument.annotation, place)

    def test_imports(self):
        for name, tree in self.trees.items():
            for node in ast.walk(tree):
                if isinstance(node, ast.ImportFrom) and node.module == "math":
                    self.assertEqual([(alias.name, alias.asname) for alias in node.names], [("gcd", None)], name)
                elif isinstance(node, ast.ImportFrom):
                    self.assertRegex(node.module, r"^knownplay\.[a-z]+$", name)
                    there = defined(self.trees[node.module.split(".")[1] + ".py"])
                    for alias in node.names:
                        self.assertIn(alias.name, there, name)
                        self.assertIsNone(alias.asname, name)

    def test_files_do_not_import_from_each_other(self):
        imported = {}
        for name, tree in self.trees.items():
            modules = [node.module for node in ast.walk(tree) if isinstance(node, ast.ImportFrom)]
            modules = [module for module in modules if module != "math"]
            imported[name] = {module.split(".")[1] + ".py" for module in modules}
        while imported:
            done = [name for name, others in imported.items() if not others & set(imported)]
            self.assertTrue(done, imported)
            imported = {name: others for name, others in imported.items() if name not in done}

    def test_module_level_is_plain(self):
        for name, tree in self.trees.items():
            for node in tree.body[1:]:
                self.assertIsInstance(node, (ast.ImportFrom, ast.FunctionDef, ast.ClassDef, ast.Assign), name)
                if isinstance(node, ast.Assign):
                    self.assertEqual(len(node.targets), 1, name)
                    ast.literal_eval(node.value)
            names = defined(tree)
            names += [alias.name for node in tree.body if isinstance(node, ast.ImportFrom) for alias in node.names]
            self.assertEqual(len(names), len(set(names)), name)

    def test_statements_and_signs(self):
        for place, node in self.nodes(ast.stmt):
            self.assertIsInstance(node, STATEMENTS, place)
        for place, node in self.nodes(ast.Div, ast.NamedExpr, ast.Await, ast.Yield, ast.GeneratorExp):
            self.fail(f"{place}: {ast.dump(node)[:60]}")
        for place, node in self.nodes(ast.Constant):
            self.assertNotIsInstance(node.value, (float, complex), place)

    def test_stars(self):
        for name, tree in self.trees.items():
            self.assertEqual(starred_indexes(tree), [], name)
        for place, node in self.nodes(ast.Set):
            self.assertFalse([item for item in node.elts if isinstance(item, ast.Starred)], place)
        for place, node in self.nodes(ast.Call):
            stars = [k for k, item in enumerate(node.args) if isinstance(item, ast.Starred)]
            for item in node.args[stars[0] + 1:] if stars else []:
                self.assertIsInstance(item, (ast.Name, ast.Attribute, ast.Constant), place)
            self.assertTrue(all(word.arg for word in node.keywords), place)

    def test_a_star_in_an_index_is_found_however_it_is_written(self):
        for row in (
            "longer[(*row, told)] = behind", "longer[*row, told] = behind", "found = longer[(*row,)]",
            "del longer[((*row, told), 1)]", "longer[(*row,)] += 1", "found = rows[[*row][0]:]", "rows[len([*row])]",
            "found = [longer[(*row, 1)] for row in rows]", "word = f'{longer[(*row, 1)]}'", "longer[f(*row)]",
        ):
            self.assertEqual(len(starred_indexes(ast.parse(row))), 1, row)
        for row in ("longer[row + (told,)] = behind", "longer[a * b]", "(*rows[0], told)", "[*rows[1:]]"):
            self.assertEqual(starred_indexes(ast.parse(row)), [], row)

    def test_is_stands_beside_none_true_or_false(self):
        for place, node in self.nodes(ast.Compare):
            for sign, other in zip(node.ops, node.comparators):
                if isinstance(sign, (ast.Is, ast.IsNot)):
                    self.assertIn(ast.unparse(other), ("None", "True", "False"), place)

    def test_attributes_are_assigned_through_a_name(self):
        for place, node in self.nodes(ast.Attribute):
            if isinstance(node.ctx, ast.Store):
                self.assertIsInstance(node.value, ast.Name, place)

    def test_errors_are_raised_on_the_spot_and_caught_by_name(self):
        errors = set(INTERFACE["errors"])
        for place, node in self.nodes(ast.Raise):
            self.assertIn(node.exc.func.id, errors, place)
            self.assertTrue(node.cause is None or ast.unparse(node.cause) == "None", place)
        for place, node in self.nodes(ast.ExceptHandler):
            kinds = node.type.elts if isinstance(node.type, ast.Tuple) else [node.type]
            self.assertLessEqual({kind.id for kind in kinds}, errors, place)

    def test_strings(self):
        for place, node in self.nodes(ast.Constant):
            if isinstance(node.value, str):
                self.assertNotIn("%", node.value, place)
                self.assertFalse(node.value.startswith("__"), place)
        for name, text in self.sources:
            self.assertIsNone(re.search(r"\\[^n]", text), name)

    def test_names(self):
        own = {name for tree in self.trees.values() for name in defined(tree)}
        for place, node in self.nodes(ast.Name, ast.arg, ast.FunctionDef, ast.Attribute):
            name = getattr(node, "id", None) or getattr(node, "arg", None) or getattr(node, "name", None) or node.attr
            self.assertNotIn(name, BARRED, place)
            if isinstance(node, ast.Name) and isinstance(node.ctx, ast.Load):
                self.assertTrue(name in BUILTINS or name not in TAKEN, f"{place}: {name}")
            elif not isinstance(node, ast.Attribute):
                self.assertNotIn(name, TAKEN, place)
            if isinstance(node, (ast.arg, ast.FunctionDef)) and name.startswith("_"):
                self.assertIn(name, ("__init__", "__eq__"), place)
        self.assertFalse(own & TAKEN)

    def test_no_local_name_is_that_of_an_import_or_a_definition_of_its_file(self):
        for name, tree in self.trees.items():
            taken = set(defined(tree))
            taken |= {alias.name for node in tree.body if isinstance(node, ast.ImportFrom) for alias in node.names}
            for function in [node for node in ast.walk(tree) if isinstance(node, ast.FunctionDef)]:
                local = {node.arg for node in ast.walk(function) if isinstance(node, ast.arg)}
                local |= {node.id for node in ast.walk(function)
                          if isinstance(node, ast.Name) and isinstance(node.ctx, ast.Store)}
                self.assertFalse(local & taken, f"{name}: {function.name}")

    def test_methods(self):
        own = {node.name for _, node in self.nodes(ast.FunctionDef)}
        for place, node in self.nodes(ast.Call):
            if isinstance(node.func, ast.Attribute):
                self.assertIn(node.func.attr, METHODS | own, place)

    def test_no_name_is_a_method_and_an_attribute(self):
        methods = {node.name for _, kind in self.nodes(ast.ClassDef) for node in kind.body
                   if isinstance(node, ast.FunctionDef)}
        stored = {node.attr for _, node in self.nodes(ast.Attribute) if isinstance(node.ctx, ast.Store)}
        self.assertFalse(methods & stored)
        read = {node.attr for _, node in self.nodes(ast.Attribute) if isinstance(node.ctx, ast.Load)}
        self.assertLessEqual(read, methods | stored | METHODS | {"__init__"})

    def test_what_a_loop_goes_over_is_not_changed_in_it(self):
        for place, loop in self.nodes(ast.For):
            over = {ast.unparse(node) for node in ast.walk(loop.iter) if isinstance(node, (ast.Name, ast.Attribute))}
            for node in [node for part in loop.body for node in ast.walk(part)]:
                changed = []
                if isinstance(node, ast.Call) and isinstance(node.func, ast.Attribute) and node.func.attr in CHANGING:
                    changed = [node.func.value]
                elif isinstance(node, (ast.Assign, ast.AugAssign)):
                    targets = node.targets if isinstance(node, ast.Assign) else [node.target]
                    changed = [target.value for target in targets if isinstance(target, ast.Subscript)]
                for thing in changed:
                    self.assertNotIn(ast.unparse(thing), over, place)

    def test_sets_stand_only_where_they_may(self):
        for name, tree in self.trees.items():
            for node in ast.walk(tree):
                for child in ast.iter_child_nodes(node):
                    plain_set = isinstance(child, (ast.Set, ast.SetComp)) or (
                        isinstance(child, ast.Call) and isinstance(child.func, ast.Name) and child.func.id == "set")
                    if plain_set and not isinstance(node, (ast.Assign, ast.Compare)):
                        self.assertIn(ast.unparse(node).split("(")[0], ("len", "sorted"), name)

    def test_the_interface_is_defined_where_it_is_listed(self):
        for name, functions in INTERFACE.items():
            for function in functions:
                self.assertIn(function, defined(self.trees[name + ".py"]))


if __name__ == "__main__":
    unittest.main()
