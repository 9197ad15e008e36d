"""The package keeps to the plain subset of Python, as far as a look at its files can tell."""

import ast
import builtins
import pathlib
import re
import unittest

PACKAGE = pathlib.Path(__file__).parent.parent / "fewheld"
BUILTINS = set("""len range enumerate zip min max sum abs sorted reversed int str bool bytes list tuple dict set
    isinstance ord repr any all divmod ValueError LookupError RuntimeError ArithmeticError KeyError TypeError
    NotImplementedError NotImplemented map iter next property staticmethod""".split())
# Generator expressions and += are allowed here and there only, where no
# operator of a class can come near; the package does without them.
BARRED_NODES = (ast.GeneratorExp, ast.AugAssign, ast.Global, ast.AsyncFunctionDef, ast.Await, ast.Div, ast.MatMult)
BARRED_WORDS = """type typing enum Enum IntEnum StrEnum Flag IntFlag Generic Protocol ABC ABCMeta namedtuple NamedTuple
    TypedDict abstractmethod mro elements open input law exec eval getattr setattr hasattr vars globals locals super
    id dir gc os sys exit quit help format""".split()
DOUBLE = set("""__init__ __eq__ __repr__ __str__ __len__ __enter__ __exit__ __call__ __iter__ __add__ __sub__ __or__
    __and__ __invert__ __rrshift__ __lshift__ __contains__ __getitem__ __setitem__ __iadd__ __isub__""".split())
METHODS = set("append clear copy count endswith extend find get index insert items join keys pop replace setdefault "
              "split startswith strip update values isdigit bit_length".split())
LIBRARY = {"math": {"gcd"}}
# For each function its parameters.
INTERFACE = {
    "rows": "is_letters(value) is_row(letters,value) is_ahead(letters,row,other) rows(letters,most) "
            "many_rows(letters,most) row_at(letters,number) number_of(letters,row)",
    "books": "",
    "alike": "are_alike(book,one,other) is_within(book,one,other) parting(book,one,other) missing(book,one,other) "
             "covers(book,some) fewest(book,some) cover_width(book) rooms(book) books_alike(one,other) "
             "books_within(one,other) books_parting(one,other) books_missing(one,other)",
    "counts": "many_readings(book,row) spread(book,length) doubling(book) degree(book) chain(book,rises) "
              "is_doubling(book,value) is_chain(book,value) greatest(book) at_once(book) twice_read(book) "
              "same_numbers(one,other)",
    "families": "cost(book,some,prices) family(book,budget,prices) is_enough(book,budget,prices) "
                "least_budget(book,prices) held_width(book) first_choices(book,budget,prices) "
                "choices(book,budget,some,letter,prices) needed(book,budget,some,letter,prices) "
                "plan_for(book,budget,prices) struck(book,budget,prices) exhausted_in(book,budget,prices) "
                "is_family(book,budget,value,prices)",
    "ahead": "windows(letters,d) following(letters,d,window) ahead_family(book,k,d) is_enough_ahead(book,k,d) "
             "least_ahead(book,d) stairs(book,d) choices_ahead(book,k,d,some,letter,window) "
             "first_choices_ahead(book,k,d,window)",
    "following": "shown_family(one,other,k) row_family(one,other,k) is_enough_shown(one,other,k) "
                 "is_enough_by_row(one,other,k) least_shown(one,other) least_by_row(one,other) "
                 "followed(one,other,k,row,run)",
    "mending": "fitting(book) opened(book) put_in(book,things) mend(book,k) plain_part(book) is_plain(book) "
               "order_for_one(book) right_orders(book,width) first_order(book,width)",
    "texts": "book_text(book) read_book(text) rule_text(rule) read_rule(text)",
    "judge": "is_claim(value) paper_of(claim) is_paper(claim,value)",
    "desk": "",
    "readers": "walk(book,rule) lost_row(book,rule) most_held(book,rule) harmless_widths(book,order) "
               "lost_alone(book,one,other)",
}
# For each class its file and its methods.
CLASSES = {
    "Book": ("books", """letters size starts ends steps comes reads runs readings with_starts with_ends live useful sets
        coming of_rooms __init__ __len__ __contains__ __call__ __eq__ __repr__ __add__ __sub__ __or__ __and__ __invert__
        __rrshift__ __lshift__"""),
    "Likeness": ("alike", "book __init__ __len__ __getitem__ __call__ __eq__ __iter__"),
    "Rule": ("readers", "begins holds"),
    "ListRule": ("readers", "begins holds order width __init__ __eq__ __repr__ __call__"),
    "Plan": ("readers", "begins holds begin table __init__ __eq__"),
    "Reader": ("readers", """book row held whole at_end rule set_rule missing copy trial tried_by __init__ __len__
        __iadd__ __isub__ __enter__ __exit__"""),
    "Desk": ("desk", """do do_all attempt log names __init__ __getitem__ __setitem__ __len__ __contains__ __iter__"""),
}
# An interactive session, such as a doctest, leaves its last value in `_`.
ALL_BUILTINS = set(dir(builtins)) - {"_"}
FILES = sorted(PACKAGE.glob("*.py"))
TREES = {path.name: ast.parse(path.read_text(encoding="ascii")) for path in FILES}


def nodes(kind):
    """All nodes of a kind, with the names of their files."""
    return [(name, node) for name, tree in TREES.items() for node in ast.walk(tree) if isinstance(node, kind)]


def functions():
    """All functions and methods."""
    return nodes(ast.FunctionDef)


def defined_in(tree):
    """The names of what a file defines at its module level."""
    found = {made.name for made in tree.body if isinstance(made, (ast.FunctionDef, ast.ClassDef))}
    return found | {made.targets[0].id for made in tree.body if isinstance(made, ast.Assign)}


def docstrings(tree):
    """The nodes of the docstrings of a file."""
    found = []
    for node in ast.walk(tree):
        if isinstance(node, (ast.Module, ast.ClassDef, ast.FunctionDef)) and ast.get_docstring(node) is not None:
            found.append(node.body[0].value)
    return found


class Language(unittest.TestCase):
    def test_files(self):
        self.assertIn("__init__.py", TREES)
        for path in PACKAGE.iterdir():
            if path.name != "__pycache__":
                self.assertRegex(path.name, r"^[a-z_]+\.py$")
        for path in FILES:
            text = path.read_text(encoding="ascii")
            self.assertEqual(re.sub("[ -~\n]", "", text), "")
            lines = text.split("\n")
            self.assertLess(len(lines), 400)
            self.assertLessEqual(max(len(line) for line in lines), 120)
            self.assertNotIn("__builtins__", text)

    def test_functions_are_short(self):
        for name, node in functions():
            self.assertLessEqual(node.end_lineno - node.lineno + 1, 40, (name, node.name))

    def test_nodes(self):
        for name, node in nodes(BARRED_NODES):
            self.fail(f"{name}, line {node.lineno}: {node.__class__.__name__}")
        for name, node in nodes(ast.Constant):
            self.assertNotIsInstance(node.value, float, (name, node.lineno))
            if isinstance(node.value, str):
                self.assertNotIn("%", node.value, (name, node.lineno))
        for name, node in nodes(ast.BinOp):
            if isinstance(node.op, ast.Pow):
                self.assertIsInstance(node.right, ast.Constant, (name, node.lineno))

    def test_imports(self):
        module_names = {path.stem for path in FILES}
        for name, tree in TREES.items():
            self.assertFalse([node for node in ast.walk(tree) if isinstance(node, ast.Import)])
            behind = tree.body[1:]
            imports = [node for node in behind if isinstance(node, ast.ImportFrom)]
            self.assertEqual(behind[:len(imports)], imports, name)
            for node in imports:
                names = {alias.name for alias in node.names}
                self.assertFalse([alias for alias in node.names if alias.asname])
                if node.module in LIBRARY:
                    self.assertLessEqual(names, LIBRARY[node.module])
                    continue
                package, _, module = node.module.partition(".")
                self.assertEqual((package, node.level), ("fewheld", 0), name)
                self.assertIn(module, module_names)
                self.assertLessEqual(names, defined_in(TREES[module + ".py"]), name)

    def test_no_two_files_import_from_each_other(self):
        towards = {name[:-3]: {node.module[8:] for node in tree.body
                               if isinstance(node, ast.ImportFrom) and node.module not in LIBRARY}
                   for name, tree in TREES.items()}
        left = set(towards)
        while left:
            free = {name for name in left if not towards[name] & left}
            self.assertTrue(free, left)
            left -= free

    def test_what_is_taken_from_the_library_is_only_called(self):
        called = [id(node.func) for _, node in nodes(ast.Call)]
        for name, node in nodes(ast.Name):
            if node.id in {"gcd"}:
                self.assertIn(id(node), called, (name, node.lineno))

    def test_each_import_is_used_and_not_bound_again(self):
        for name, tree in TREES.items():
            lines = [node for node in tree.body if isinstance(node, ast.ImportFrom)]
            imported = {alias.name for node in lines for alias in node.names}
            words = [node for node in ast.walk(tree) if isinstance(node, ast.Name)]
            used = {node.id for node in words}
            bound = {node.id for node in words if isinstance(node.ctx, ast.Store)}
            bound |= {node.arg for node in ast.walk(tree) if isinstance(node, ast.arg)}
            self.assertLessEqual(imported, used, name)
            self.assertFalse(imported & bound, name)
            self.assertFalse(bound & ALL_BUILTINS, name)

    def test_builtins(self):
        for name, node in nodes(ast.Name):
            if node.id in ALL_BUILTINS:
                self.assertIn(node.id, BUILTINS, (name, node.lineno))

    def test_names(self):
        for name, tree in TREES.items():
            found = {node.id for node in ast.walk(tree) if isinstance(node, ast.Name)}
            found |= {node.attr for node in ast.walk(tree) if isinstance(node, ast.Attribute)}
            found |= {node.arg for node in ast.walk(tree) if isinstance(node, ast.arg)}
            found |= {node.name for node in ast.walk(tree) if isinstance(node, (ast.FunctionDef, ast.ClassDef))}
            self.assertFalse(found & set(BARRED_WORDS), name)
            for word in found:
                if word.startswith("__"):
                    self.assertIn(word, DOUBLE, name)
            told = docstrings(tree)
            for node in ast.walk(tree):
                if isinstance(node, ast.Constant) and isinstance(node.value, str) and node not in told:
                    self.assertFalse(set(re.findall(r"\w+", node.value)) & set(BARRED_WORDS), name)

    def test_methods_that_are_called(self):
        own = {node.name for _, node in functions()}
        for name, node in nodes(ast.Call):
            if isinstance(node.func, ast.Attribute):
                self.assertIn(node.func.attr, METHODS | own, (name, node.lineno))

    def test_generators_have_names_of_their_own(self):
        names = [node.name for _, node in functions()]
        for name, node in functions():
            if any(isinstance(part, (ast.Yield, ast.YieldFrom)) for part in ast.walk(node)):
                self.assertEqual(names.count(node.name), 1, (name, node.name))

    def test_sets_stand_only_in_sorted(self):
        inside = [id(node.args[0]) for _, node in nodes(ast.Call)
                  if isinstance(node.func, ast.Name) and node.func.id in ("sorted", "len") and node.args]
        for name, node in nodes((ast.SetComp, ast.Set)):
            self.assertIn(id(node), inside, (name, node.lineno))

    def test_attributes_are_assigned_through_local_names(self):
        for name, node in nodes(ast.Assign):
            for target in node.targets:
                if isinstance(target, ast.Attribute):
                    self.assertIn(target.value.id, ["self", "made", "before"], (name, node.lineno))

    def test_properties_and_methods_have_unlike_names(self):
        found = [(node.name, bool(node.decorator_list)) for _, made in nodes(ast.ClassDef) for node in made.body
                 if isinstance(node, ast.FunctionDef)]
        decorated = {name for name, is_decorated in found if is_decorated}
        plain = {name for name, is_decorated in found if not is_decorated}
        self.assertFalse(decorated & plain)
        stored = {node.attr for _, node in nodes(ast.Attribute) if isinstance(node.ctx, ast.Store)}
        self.assertFalse(stored & (decorated | plain))

    def test_what_an_exit_may_do(self):
        for name, node in functions():
            if node.name == "__exit__":
                for row in node.body:
                    self.assertIsInstance(row, ast.Assign, (name, row.lineno))
                    self.assertIsInstance(row.value, ast.Attribute, (name, row.lineno))

    def test_functions_of_the_interface(self):
        for module, due in INTERFACE.items():
            made = {node.name: node for node in TREES[module + ".py"].body if isinstance(node, ast.FunctionDef)}
            for told in due.split():
                name, _, parameters = told[:-1].partition("(")
                self.assertIn(name, made, module)
                self.assertEqual(",".join(part.arg for part in made[name].args.args), parameters, name)

    def test_classes_of_the_interface(self):
        for name, (module, due) in CLASSES.items():
            made = [node for node in TREES[module + ".py"].body if isinstance(node, ast.ClassDef) and node.name == name]
            self.assertEqual(len(made), 1, name)
            self.assertLessEqual(set(due.split()), {node.name for node in made[0].body
                                                    if isinstance(node, ast.FunctionDef)})

    def test_words_that_are_barred_beside_indexed_objects(self):
        for path in FILES:
            for word in ["(type)", "Meta", "metaclass="]:
                self.assertNotIn(word, path.read_text(encoding="ascii"))


if __name__ == "__main__":
    unittest.main()
