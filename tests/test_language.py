"""The package keeps to the small subset of the language, and to point [1]: no clock, chance, files or network."""

import ast
import inspect
import os
import re
import symtable
import unittest

import evenodds
from evenodds import (
    absum,
    bruhat,
    cdread,
    cdwords,
    counts,
    crossing,
    edits,
    engine,
    errors,
    evencheck,
    faces,
    flagsback,
    labels,
    letterrules,
    mirror,
    moebius,
    orders,
    ordertext,
    papers,
    products,
    ranksets,
    recur,
    relations,
    script,
    signrows,
    span,
    stretches,
    toric,
    words,
)

FOLDER = os.path.dirname(evenodds.__file__)
MODULES = {
    "errors": errors, "orders": orders, "relations": relations, "edits": edits, "ordertext": ordertext,
    "stretches": stretches, "evencheck": evencheck, "ranksets": ranksets, "counts": counts, "words": words,
    "absum": absum, "moebius": moebius, "mirror": mirror, "cdwords": cdwords, "cdread": cdread, "recur": recur,
    "flagsback": flagsback, "products": products, "letterrules": letterrules, "span": span, "faces": faces,
    "bruhat": bruhat, "crossing": crossing, "toric": toric, "labels": labels, "signrows": signrows, "papers": papers,
    "engine": engine, "script": script,
}

LIBRARY = {
    "heapq": {"heappush", "heappop", "heapify", "heapreplace", "heappushpop"},
    "math": {"gcd", "lcm", "isqrt", "comb", "perm", "factorial"},
    "itertools": {"product", "combinations", "permutations", "chain", "accumulate", "pairwise", "islice",
                  "zip_longest"},
    "collections": {"defaultdict", "deque"},
}

BUILTINS = set("""
    len range enumerate zip min max sum abs sorted reversed int str bool list tuple dict set isinstance ord repr any
    all divmod pow iter next map Exception ValueError TypeError KeyError IndexError LookupError ZeroDivisionError
    NotImplemented property super
""".split())

INTERFACE = {
    "orders": {"is_name": "(text)", "Order": "(names, covers=())"},
    "relations": {
        "relations": "(order)", "order_from_relations": "(names, pairs)", "is_alike": "(order, other)",
        "renamed": "(order, names)", "is_matching": "(order, other, pairs)",
    },
    "edits": {
        "apply_edit": "(order, edit)", "inverse_edit": "(order, edit)", "apply_edits": "(order, edits)",
    },
    "ordertext": {
        "format_order": "(order)", "parse_order": "(text)", "format_edit": "(edit)", "parse_edit": "(line)",
    },
    "stretches": {
        "stretch": "(order, low, high)", "inner_things": "(order, low, high)",
        "stretch_order": "(order, low, high)", "stretches": "(order, *, least_length=1)",
    },
    "evencheck": {
        "parity_counts": "(order, low, high)", "uneven_stretch": "(order)", "uneven_stretches": "(order)",
        "is_even": "(order)", "is_uneven_paper": "(order, paper)",
    },
    "ranksets": {
        "is_rank_set": "(ranks, weight)", "rank_sets": "(weight)", "complement": "(ranks, weight)",
        "subsets": "(ranks)", "word_of": "(ranks, weight)", "ranks_of": "(word)",
    },
    "counts": {
        "is_chain": "(order, things, *, with_ends=False)", "chain_ranks": "(order, things)",
        "chains": "(order, ranks, *, with_ends=False)", "Counts": "(weight, table)", "alpha": "(order, ranks)",
        "alphas": "(order)", "betas_of_alphas": "(counts)", "alphas_of_betas": "(counts)",
        "beta": "(order, ranks)",
    },
    "words": {
        "WordSum": "(letters, weight, terms)", "zero_sum": "(letters, weight)", "single": "(letters, word)",
        "power": "(base, exponent)", "word_weight": "(letters, word)", "format_sum": "(word_sum)",
        "parse_sum": "(text, letters, *, weight)",
    },
    "absum": {
        "ab_sum": "(order)", "sum_of_betas": "(counts)", "stretch_sum": "(order, low, high)",
        "betas_of_sum": "(word_sum)",
    },
    "moebius": {
        "mu": "(order, low, high)", "mu_table": "(order)", "is_mu_table": "(order, table)", "unlike_mu": "(order)",
        "signed_total": "(order, low, high)", "selected": "(order, ranks)", "mu_without": "(order, struck)",
        "mu_by_struck": "(order, struck)",
    },
    "mirror": {
        "mirrored": "(word_sum)", "is_mirrored": "(word_sum)", "unmirrored_word": "(word_sum)",
        "unmirrored_ranks": "(order)", "unmirrored_stretch": "(order)",
    },
    "cdwords": {
        "cd_words": "(weight)", "cd_count": "(weight)", "spread": "(word_sum)", "first_word": "(word)",
        "word_of_first": "(word)",
    },
    "cdread": {
        "reading": "(word_sum)", "is_reading": "(word_sum, cd_part, rest)", "is_readable": "(word_sum)",
        "read_cd": "(word_sum)", "cd_sum": "(order)", "unread_stretch": "(order)",
    },
    "recur": {
        "minus_power": "(exponent)", "square_power": "(exponent)", "top_parts": "(order)",
        "ab_sum_by_tops": "(order)", "doubled_cd": "(order)", "cd_by_tops": "(order)",
    },
    "flagsback": {
        "is_sparse": "(ranks)", "sparse_sets": "(weight)", "few_numbers": "(counts)",
        "told_back": "(weight, numbers)", "balance_sides": "(counts, ranks, low)", "broken_balance": "(counts)",
        "is_balanced": "(counts)",
    },
    "products": {
        "turned": "(order)", "laid": "(lower, upper)", "product": "(left, right)", "pyramid": "(order)",
        "prism": "(order)",
    },
    "letterrules": {
        "splits": "(word_sum)", "splits_by_tops": "(order)", "lifted": "(word_sum, first, second)",
        "pyramid_sum": "(word_sum)", "prism_sum": "(word_sum)",
    },
    "span": {
        "pair_order": "()", "line_order": "()", "triangle_order": "()", "basis_order": "(word)",
        "basis_sum": "(word)", "combination": "(word_sum)", "rebuilt": "(weight, pairs)",
        "alpha_of_cd": "(word_sum, ranks)", "hidden_sum": "(weight, rank_sets)",
        "is_hidden": "(word_sum, rank_sets)", "heaps": "(word_sum)", "heap_alpha": "(heap, ranks)",
    },
    "faces": {
        "faces_of": "(corner_count, facets)", "corners_of": "(name)", "polygon": "(size)", "simplex": "(size)",
        "cube": "(size)", "cross": "(size)",
    },
    "bruhat": {
        "swaps": "(word)", "is_at_most": "(first, second)", "rearrangement_stretch": "(low, high)",
        "rearrangements": "(size)",
    },
    "crossing": {
        "is_closed": "(order, things)", "closure_below": "(order, things)", "crossing": "(order, closed)",
        "crossing_ends": "(order, closed)", "border": "(order, closed)",
    },
    "toric": {
        "times_rows": "(first, second)", "minus_row": "(exponent)", "cut_row": "(numbers)",
        "unmirrored_item": "(numbers)", "long_row": "(order)", "short_row": "(order)", "long_parts": "(order)",
        "short_turn": "(order)", "long_of_sum": "(word_sum)", "short_of_sum": "(word_sum)",
    },
    "labels": {
        "full_chains": "(order, low, high)", "label_row": "(order, labels, things)", "falls": "(row)",
        "rising_chains": "(order, labels, low, high)", "falling_chains": "(order, labels, low, high)",
        "unsingle_stretch": "(order, labels)", "is_single": "(order, labels)",
        "is_unsingle_paper": "(order, labels, paper)", "fall_counts": "(order, labels)",
        "risen_chain": "(order, labels, things)", "find_labels": "(order, *, most)",
        "product_labels": "(left, left_labels, right, right_labels)", "turned_labels": "(order, labels)",
        "corner_labels": "(size)",
    },
    "signrows": {
        "zero_lot": "(row)", "differing": "(first, second)", "turned_row": "(row)", "put_on": "(first, second)",
        "unclosed": "(rows)", "is_arrangement": "(rows)", "face_order": "(rows)", "zero_order": "(rows)",
        "zero_lots": "(rows)", "row_count": "(order, low, high)", "row_counts": "(order)", "lot_sum": "(order)",
        "undoubled_term": "(word_sum)", "is_lot_matching": "(rows, other, places)", "line_rows": "(count)",
        "joined_rows": "(first, second)",
    },
    "papers": {
        "verdict": "(order)", "is_verdict": "(order, paper)", "full_paper": "(order)",
        "is_full_paper": "(order, paper)",
    },
    "engine": {"Engine": "(order)"},
    "script": {"run": "(text, *, start=None)"},
}

# The methods that the interface lists for each class, and the operators that the points name.
METHODS = {
    orders.Order: {
        "rank": "(self, name)", "place": "(self, name)", "at_rank": "(self, rank)", "is_below": "(self, low, high)",
        "is_at_most": "(self, low, high)", "lowers": "(self, name)", "uppers": "(self, name)",
    },
    counts.Counts: {"pairs": "(self)"},
    words.WordSum: {"coefficient": "(self, word)", "reversed_words": "(self)", "halved": "(self)"},
    engine.Engine: {
        "do": "(self, edit)", "do_all": "(self, edits)", "make": "(self, word)", "cross": "(self, closed)",
        "replace_by": "(self, other)", "undo": "(self)", "redo": "(self)", "ask": "(self, question)",
        "is_even": "(self)",
    },
}
OPERATORS = {
    orders.Order: ("__eq__", "__contains__", "__iter__"),
    counts.Counts: ("__eq__", "__getitem__", "__iter__", "__add__", "__sub__"),
    words.WordSum: ("__eq__", "__iter__", "__contains__", "__bool__", "__add__", "__sub__", "__neg__", "__mul__",
                    "__rmul__"),
    engine.Engine: ("__iter__",),
}
PROPERTIES = {orders.Order: ("least", "greatest", "size"), engine.Engine: ("order", "steps", "undone")}

# The methods of builtin values that may be called.
BUILTIN_METHODS = set("""
    append clear copy count endswith extend find get index insert isalnum isalpha isdigit islower isspace isupper
    items join keys ljust lower lstrip partition pop remove replace reverse rfind rjust rpartition rsplit rstrip
    setdefault split splitlines startswith strip update upper values zfill bit_length add discard removeprefix
    removesuffix
""".split())


def sources():
    """The text of each file of the package by its name."""
    found = {}
    for name in sorted(os.listdir(FOLDER)):
        if name != "__pycache__":
            with open(os.path.join(FOLDER, name), encoding="utf-8", newline="") as source:
                found[name] = source.read()
    return found


def nodes():
    for name, text in sources().items():
        for node in ast.walk(ast.parse(text)):
            yield f"{name}:{getattr(node, 'lineno', 0)}", node


def free_names(table):
    """The names that a file reads but binds nowhere: those of builtins."""
    found = {symbol.get_name() for symbol in table.get_symbols() if symbol.is_global() and symbol.is_referenced()}
    for inner in table.get_children():
        found |= free_names(inner)
    return found


class Files(unittest.TestCase):
    def test_files_and_sizes(self):
        for name, text in sources().items():
            self.assertRegex(name, r"^[a-z_]+\.py$")
            self.assertLessEqual(len(text.split("\n")), 399, name)
            self.assertTrue(text.endswith("\n") and not text.endswith("\n\n"), name)
            for line in text.split("\n"):
                self.assertLessEqual(len(line), 120, name)
                self.assertRegex(line, r"^[ -~]*$", name)
                self.assertEqual(line, line.rstrip(), name)

    def test_functions_are_small(self):
        for where, node in nodes():
            if isinstance(node, ast.FunctionDef):
                self.assertLessEqual(node.end_lineno - node.lineno + 1, 40, where)


class Names(unittest.TestCase):
    def test_imports_name_the_file_that_defines_the_name(self):
        for where, node in nodes():
            self.assertNotIsInstance(node, ast.Import, where)
            if isinstance(node, ast.ImportFrom):
                names = {alias.name for alias in node.names}
                self.assertEqual((node.level, {alias.asname for alias in node.names}), (0, {None}), where)
                if node.module in LIBRARY:
                    self.assertLessEqual(names, LIBRARY[node.module], where)
                else:
                    package, _, module = node.module.partition(".")
                    self.assertEqual(package, "evenodds", where)
                    self.assertLessEqual(names, self.defined(module), where)

    def defined(self, module):
        found = set()
        for item in ast.parse(sources()[module + ".py"]).body:
            if isinstance(item, ast.Assign):
                found |= {target.id for target in item.targets}
            elif isinstance(item, (ast.FunctionDef, ast.ClassDef)):
                found.add(item.name)
        return found

    def test_only_allowed_builtins_are_used(self):
        for name, text in sources().items():
            table = symtable.symtable(text, name, "exec")
            bound = {symbol.get_name() for symbol in table.get_symbols() if symbol.is_assigned()}
            bound |= {symbol.get_name() for symbol in table.get_symbols() if symbol.is_imported()}
            bound |= {inner.get_name() for inner in table.get_children()}
            self.assertLessEqual(free_names(table) - bound, BUILTINS, name)
            self.assertFalse(bound & BUILTINS, name)

    def test_no_inner_name_is_that_of_an_import_or_a_class(self):
        for name, text in sources().items():
            tree = ast.parse(text)
            outer = {alias.name for item in tree.body if isinstance(item, ast.ImportFrom) for alias in item.names}
            outer |= {item.name for item in tree.body if isinstance(item, ast.ClassDef)}
            for node in ast.walk(tree):
                if isinstance(node, ast.arg):
                    self.assertNotIn(node.arg, outer, name)
                if isinstance(node, ast.Name) and isinstance(node.ctx, ast.Store):
                    self.assertNotIn(node.id, outer, name)

    def test_only_allowed_methods_are_called(self):
        own = {item.name for _, node in nodes() if isinstance(node, ast.ClassDef)
               for item in node.body if isinstance(item, ast.FunctionDef)}
        for where, node in nodes():
            if isinstance(node, ast.Call) and isinstance(node.func, ast.Attribute):
                self.assertIn(node.func.attr, BUILTIN_METHODS | own, where)

    def test_plain_names(self):
        for where, node in nodes():
            if isinstance(node, ast.Attribute):
                self.assertTrue(re.fullmatch(r"_?[A-Za-z]\w*", node.attr)
                                or node.attr in ("__init__", "__class__", "__name__"), where)


class Statements(unittest.TestCase):
    barred = (
        ast.Global, ast.AsyncFunctionDef, ast.Await, ast.Div, ast.GeneratorExp, ast.Set, ast.Match,
        ast.With, ast.Yield, ast.YieldFrom, ast.AnnAssign, ast.NamedExpr,
    )

    def test_nothing_beyond_what_this_package_needs(self):
        for where, node in nodes():
            self.assertNotIsInstance(node, self.barred, where)
            if isinstance(node, ast.Constant):
                self.assertIn(node.value.__class__, (int, str, bool, None.__class__), where)
            if isinstance(node, ast.FunctionDef):
                shown = [ast.unparse(decorator) for decorator in node.decorator_list]
                self.assertIn(shown, ([], ["property"]), where)
            if isinstance(node, ast.ClassDef):
                self.assertEqual((node.decorator_list, len(node.bases) <= 1), ([], True), where)
            if isinstance(node, ast.Compare) and isinstance(node.ops[0], (ast.Is, ast.IsNot)):
                self.assertEqual(ast.unparse(node.comparators[0]), "None", where)

    def test_only_own_errors_are_caught(self):
        own = {item.name for item in ast.parse(sources()["errors.py"]).body if isinstance(item, ast.ClassDef)}
        for where, node in nodes():
            if isinstance(node, ast.Try):
                self.assertEqual(node.finalbody, [], where)
            if isinstance(node, ast.ExceptHandler):
                self.assertIn(ast.unparse(node.type), own, where)

    def test_exponents_are_literals_or_counted(self):
        for where, node in nodes():
            if isinstance(node, ast.BinOp) and isinstance(node.op, ast.Pow):
                self.assertIsInstance(node.right, ast.Constant, where)

    def test_ranges_and_views_are_iterated_at_once(self):
        lazy = ("range", "zip", "enumerate", "reversed", "items", "keys", "values", "combinations", "permutations")
        takers = ("list", "tuple", "dict", "sorted", "sum", "any", "all", "min", "max")
        for name, text in sources().items():
            for outer in ast.walk(ast.parse(text)):
                for node in ast.iter_child_nodes(outer):
                    if not isinstance(node, ast.Call) or ast.unparse(node.func).rpartition(".")[2] not in lazy:
                        continue
                    if isinstance(outer, ast.Call):
                        pair = (ast.unparse(outer.func), ast.unparse(node.func))
                        self.assertTrue(pair[0] in takers or pair == ("enumerate", "zip"), f"{name}:{node.lineno}")
                    else:
                        self.assertIsInstance(outer, (ast.For, ast.comprehension), f"{name}:{node.lineno}")

    def test_module_level(self):
        for name, text in sources().items():
            for item in ast.parse(text).body:
                self.assertIsInstance(item, (ast.Expr, ast.ImportFrom, ast.Assign, ast.FunctionDef, ast.ClassDef), name)


class Interface(unittest.TestCase):
    def test_functions_and_classes(self):
        for module, listed in INTERFACE.items():
            for name, parameters in listed.items():
                found = getattr(MODULES[module], name)
                self.assertEqual(found.__module__, f"evenodds.{module}")
                self.assertEqual(str(inspect.signature(found)), parameters, name)

    def test_methods(self):
        for owner, listed in METHODS.items():
            for name, parameters in listed.items():
                self.assertEqual(str(inspect.signature(vars(owner)[name])), parameters, name)

    def test_properties(self):
        for owner, listed in PROPERTIES.items():
            for name in listed:
                self.assertIsInstance(vars(owner)[name], property)
                self.assertIsNone(vars(owner)[name].fset)

    def test_all_modules_are_listed(self):
        files = {name[:-3] for name in sources()} - {"__init__", "bounds"}
        self.assertEqual(files, set(MODULES))
        self.assertEqual(files, set(INTERFACE) | {"errors"})

    def test_operators(self):
        for owner, listed in OPERATORS.items():
            for name in listed:
                self.assertIn(name, vars(owner))


if __name__ == "__main__":
    unittest.main()
