"""Those rules of the language subset that a look at the code can tell, and the shape of the interface."""

import ast
import builtins
import importlib
import inspect
import pathlib
import unittest
import warnings

PACKAGE = pathlib.Path(__file__).resolve().parent.parent / "takendown"
FILES = sorted(PACKAGE.glob("*.py"))

USED_BUILTINS = set(
    "len range enumerate zip min max sum abs sorted reversed int str bool bytes list tuple dict set isinstance ord repr "
    "any all divmod iter next map property staticmethod classmethod super NotImplemented Exception ValueError TypeError "
    "KeyError IndexError LookupError ZeroDivisionError ArithmeticError OverflowError RuntimeError "
    "NotImplementedError".split())

VALUE_METHODS = set(
    "append clear copy count endswith extend find get index insert isalnum isalpha isdigit islower isspace isupper items "
    "join keys ljust lower lstrip partition pop remove replace reverse rfind rjust rpartition rsplit rstrip setdefault "
    "split splitlines startswith strip update upper values zfill bit_length add discard".split())

MODIFYING = set("append clear extend insert pop remove reverse setdefault sort update add discard".split())

CLASS_METHODS = set(
    "__init__ __eq__ __len__ __enter__ __exit__ __call__ __iter__ __add__ __radd__ __contains__ __getitem__ "
    "__setitem__".split())

NO_NODES = (ast.Global, ast.AsyncFunctionDef, ast.AsyncFor, ast.AsyncWith, ast.Await, ast.AnnAssign, ast.Div, ast.Try)
NO_WORDS = set(
    "type typing enum Enum Flag Generic Protocol ABC namedtuple dataclass overload contextmanager abstractmethod register "
    "mro elements open input law eval exec getattr setattr hasattr delattr globals locals vars dir id chr frozenset "
    "__class__ __name__ __slots__".split())

# The files, classes and functions of the interface, as far as they have landed
INTERFACE = {
    "items": ({}, "is_name is_item is_body is_step may_start"),
    "bodies": ({"Body": "code size item nexts held flags locks works __len__ __eq__"}, "order"),
    "threads": ({"Work": "label kind __eq__", "Guest": "label kind __eq__", "Crowd": "label kind __eq__", "Gated": "gate"},
                ""),
    "devices": ({"Device": "works guests crowds threads flags locks gates armed flagged __getitem__ __contains__ __len__ "
                 "users_of starters __eq__"}, ""),
    "rows": ({"Row": "shut locked __add__ __radd__ __contains__ __getitem__ __iter__ __len__ __eq__ steps begins without "
              "held names"}, "fits"),
    "states": ({}, "first_state is_state is_quiet held_by"),
    "moves": ({}, "moves after is_run end_of"),
    "machines": ({"Machine": "__call__ moves state counts made freed inside most touches copy attempt back"}, "play"),
    "tables": ({"Table": "states __contains__ __len__ depth run loud waiting"}, "is_closed runs"),
    "users": ({"CountedTable": "states __contains__ __len__ loud"}, "fewest_users is_closed_for counted"),
    "waits": ({}, "movers mover_of waiting_run is_round is_waiting is_dead"),
    "endings": ({}, "ending_of is_ending parts"),
    "verdicts": ({}, "verdict is_verdict is_right unlike"),
    "shorts": ({}, "arrows lock_pairs lock_order short_paper is_short left_alone"),
    "stocks": ({}, "rows_of price"),
    "cheapest": ({}, "cheapest is_floor"),
    "edits": ({}, "edited edits needless needless_steps"),
    "keepers": ({"Keeper": "device row answer change take undo history __len__ trial accept within together attempt"}, ""),
    "parts": ({}, "joined merges"),
    "texts": ({}, "write_device write_row write_body read_device read_row read_body"),
    "bench": ({"Bench": "__setitem__ __getitem__ drop __contains__ __len__ names keep bound bind ask"}, ""),
    "console": ({"Console": "bench run"}, ""),
}

SIGNATURES = {
    "items.is_name": "(value)", "items.is_item": "(value)", "items.is_body": "(value)", "items.is_step": "(value)",
    "items.may_start": "(items)", "bodies.Body": "(items)", "bodies.order": "(items)",
    "bodies.Body.item": "(self, place)", "bodies.Body.nexts": "(self, place)", "bodies.Body.held": "(self, place)",
    "threads.Work": "(name, items)", "threads.Guest": "(name, gate, items)", "threads.Crowd": "(name, gate, items)",
    "devices.Device": "(works, guests=None, crowds=None, *, armed=(), flags=())",
    "devices.Device.users_of": "(self, gate)", "devices.Device.starters": "(self, work)",
    "rows.Row": "(*steps)", "rows.Row.shut": "(work)", "rows.Row.locked": "(lock, *steps)",
    "rows.Row.begins": "(self, other)", "rows.Row.without": "(self, index)", "rows.Row.held": "(self, done)",
    "rows.Row.names": "(self, kind)", "rows.fits": "(device, row)", "states.first_state": "(device, row)",
    "states.is_state": "(device, row, value)", "states.is_quiet": "(device, row, state)",
    "states.held_by": "(device, row, state)", "moves.moves": "(device, row, state)",
    "moves.after": "(device, row, state, move)", "moves.is_run": "(device, row, value)",
    "moves.end_of": "(device, row, run)", "machines.Machine": "(device, row)",
    "machines.Machine.__call__": "(self, move)", "machines.Machine.counts": "(self, crowd)",
    "machines.Machine.attempt": "(self, visitor)", "machines.play": "(device, row, chosen)",
    "tables.Table": "(device, row, *, limit=6000)", "tables.Table.depth": "(self, state)",
    "tables.Table.run": "(self, state)", "tables.is_closed": "(device, row, value)",
    "tables.runs": "(device, row, most)", "users.CountedTable": "(device, row, most, *, limit=6000)",
    "users.fewest_users": "(device, row, *, limit=6000)", "users.is_closed_for": "(device, row, most, value)",
    "users.counted": "(device, row, run)", "waits.movers": "(device, row, state)", "waits.mover_of": "(move)",
    "waits.waiting_run": "(device, row, *, limit=6000)", "waits.is_round": "(device, row, state, value)",
    "waits.is_waiting": "(device, row, value)", "waits.is_dead": "(device, row, state)",
    "endings.ending_of": "(device, row, *, limit=6000)", "endings.is_ending": "(device, row, states, value)",
    "endings.parts": "(device, row, states, spent)", "verdicts.verdict": "(device, row, *, limit=6000)",
    "verdicts.is_verdict": "(device, row, value)", "verdicts.is_right": "(device, row, *, limit=6000)",
    "verdicts.unlike": "(device, row, other, *, limit=6000)", "shorts.arrows": "(device)",
    "shorts.lock_pairs": "(device, row)", "shorts.lock_order": "(device, row)", "shorts.short_paper": "(device, row)",
    "shorts.is_short": "(device, row, value)", "shorts.left_alone": "(device, row, ends, index, work)",
    "stocks.rows_of": "(stock, longest)", "stocks.price": "(row, *, wait=3, plain=1)",
    "cheapest.cheapest": "(device, stock, *, wait=3, plain=1, longest=4, limit=6000)",
    "cheapest.is_floor": "(device, stock, price, floor, *, wait=3, plain=1, longest=4)",
    "edits.edited": "(device, edit)", "edits.edits": "(device)", "edits.needless": "(device, row, *, limit=6000)",
    "edits.needless_steps": "(device, row, *, limit=6000)", "keepers.Keeper": "(device, row)",
    "keepers.Keeper.change": "(self, edit)", "keepers.Keeper.take": "(self, row)",
    "keepers.Keeper.within": "(self, visitor)", "keepers.Keeper.together": "(self, changes)",
    "keepers.Keeper.attempt": "(self, visitor)", "parts.joined": "(device, other)", "parts.merges": "(row, other)",
    "texts.write_device": "(device)", "texts.write_row": "(row)", "texts.write_body": "(items)",
    "texts.read_device": "(text)", "texts.read_row": "(text)", "texts.read_body": "(text)", "bench.Bench": "()",
    "bench.Bench.drop": "(self, name)", "bench.Bench.keep": "(self, name, thing)", "bench.Bench.bind": "(self, bound)",
    "bench.Bench.ask": "(self, name, other)", "console.Console": "()", "console.Console.run": "(self, command)",
}


def trees():
    """Yield (file name, text, tree) for each file of the package."""
    for path in FILES:
        text = path.read_text(encoding="ascii")
        yield path.name, text, ast.parse(text)


def functions(tree):
    return [node for node in ast.walk(tree) if isinstance(node, (ast.FunctionDef, ast.Lambda))]


def parameters(function):
    told = function.args
    named = told.posonlyargs + told.args + told.kwonlyargs + [told.vararg, told.kwarg]
    return [one.arg for one in named if one is not None]


def bound_locally(tree):
    """Return the names of all parameters and of all variables assigned in functions."""
    found = set()
    for function in functions(tree):
        found.update(parameters(function))
        found.update(node.id for node in ast.walk(function)
                     if isinstance(node, ast.Name) and isinstance(node.ctx, ast.Store))
        found.update(node.name for node in ast.walk(function) if isinstance(node, ast.ExceptHandler) and node.name)
    return found


def own_methods():
    return {function.name for _, _, tree in trees() for function in functions(tree)
            if isinstance(function, ast.FunctionDef)}


def alike_names(function):
    """Return the dict from each variable of a function to the set of those that may be given the same list."""
    groups = {}
    for node in ast.walk(function):
        if isinstance(node, ast.Assign):
            pairs = [pair for target in node.targets for pair in name_pairs(target, node.value)]
            for one, other in pairs:
                joint = groups.get(one, {one}) | groups.get(other, {other})
                groups.update({name: joint for name in joint})
    return groups


def name_pairs(target, value):
    """Return the list of the pairs of names of which an assignment gives one what the other has."""
    if isinstance(target, ast.Tuple) and isinstance(value, ast.Tuple):
        return [pair for one, other in zip(target.elts, value.elts) for pair in name_pairs(one, other)]
    if isinstance(value, ast.IfExp):
        return name_pairs(target, value.body) + name_pairs(target, value.orelse)
    if isinstance(value, ast.BoolOp):
        return [pair for one in value.values for pair in name_pairs(target, one)]
    both = isinstance(target, ast.Name) and isinstance(value, ast.Name)
    return [(target.id, value.id)] if both else []


def walked(head):
    """Return the texts of what the head of a loop iterates over."""
    if isinstance(head, ast.Call) and isinstance(head.func, ast.Name):
        if head.func.id in ("enumerate", "zip", "reversed"):
            return [text for one in head.args for text in walked(one)]
        return []
    if isinstance(head, ast.Call) and head.func.attr in ("items", "keys", "values"):
        return walked(head.func.value)
    if isinstance(head, (ast.IfExp, ast.BoolOp)):
        return [text for one in ast.iter_child_nodes(head) if isinstance(one, ast.expr) for text in walked(one)]
    return [ast.unparse(head)] if isinstance(head, (ast.Name, ast.Attribute, ast.Subscript)) else []


def modified(rows):
    """Return the set of the texts of what some rows of code change in place."""
    found = set()
    for node in [one for row in rows for one in ast.walk(row)]:
        if isinstance(node, ast.Call) and isinstance(node.func, ast.Attribute) and node.func.attr in MODIFYING:
            found.add(ast.unparse(node.func.value))
        elif isinstance(node, ast.Subscript) and isinstance(node.ctx, (ast.Store, ast.Del)):
            found.add(ast.unparse(node.value))
        elif isinstance(node, ast.AugAssign):
            found.add(ast.unparse(node.target))
    return found


def changed_loops(function):
    """Return the rows of the loops of a function that change what they walk, by any of its names."""
    groups = alike_names(function)
    found = []
    for node in ast.walk(function):
        if isinstance(node, ast.For):
            for text in walked(node.iter):
                if groups.get(text, {text}) & modified(node.body):
                    found.append(node.lineno)
    return found


class TestRules(unittest.TestCase):
    def test_files(self):
        self.assertEqual([path.name for path in sorted(PACKAGE.iterdir()) if path.name != "__pycache__"],
                         [path.name for path in FILES])
        self.assertIn("__init__.py", [path.name for path in FILES])

    def test_sizes_and_characters(self):
        for name, text, tree in trees():
            self.assertLess(text.count("\n"), 400, name)
            self.assertTrue(all(" " <= sign <= "~" or sign == "\n" for sign in text), name)
            self.assertTrue(all(len(line) <= 120 for line in text.split("\n")), name)
            for function in functions(tree):
                self.assertLessEqual(function.end_lineno - function.lineno, 39, (name, function.lineno))

    def test_no_warnings(self):
        for name, text, _ in trees():
            with warnings.catch_warnings():
                warnings.simplefilter("error")
                compile(text, name, "exec")

    def test_nodes(self):
        for name, _, tree in trees():
            for node in ast.walk(tree):
                if isinstance(node, ast.Try):
                    caught = {one.type.id for one in node.handlers}
                    self.assertFalse(caught & set(dir(builtins)), (name, node.lineno))
                    for one in node.finalbody:
                        self.assertIsInstance(one, ast.Assign, (name, node.lineno))
                        self.assertIsInstance(one.value, ast.Name, (name, node.lineno))
                else:
                    self.assertNotIsInstance(node, NO_NODES, name)
                if isinstance(node, ast.Constant):
                    self.assertNotIsInstance(node.value, (float, complex), (name, node.lineno))
                    self.assertNotIn("%", str(node.value), (name, node.lineno))
                if isinstance(node, ast.Compare) and isinstance(node.ops[0], (ast.Is, ast.IsNot)):
                    self.assertIsInstance(node.comparators[0], ast.Constant, (name, node.lineno))
                if isinstance(node, ast.FunctionDef):
                    decorators = {ast.unparse(one) for one in node.decorator_list}
                    self.assertLessEqual(decorators, {"property", "staticmethod", "classmethod", node.name + ".setter"})

    def test_module_level(self):
        for name, _, tree in trees():
            for node in tree.body:
                docstring = isinstance(node, ast.Expr) and isinstance(node.value, ast.Constant)
                plain = isinstance(node, (ast.ImportFrom, ast.FunctionDef, ast.ClassDef, ast.Assign))
                self.assertTrue(docstring or plain, (name, node.lineno))

    def test_imports(self):
        for name, _, tree in trees():
            for node in ast.walk(tree):
                self.assertNotIsInstance(node, ast.Import, name)
                if isinstance(node, ast.ImportFrom):
                    package, module = node.module.split(".")
                    self.assertEqual((package, node.level), ("takendown", 0), name)
                    defining = ast.parse((PACKAGE / (module + ".py")).read_text())
                    defined = {one.name for one in defining.body if isinstance(one, (ast.FunctionDef, ast.ClassDef))}
                    defined |= {one.targets[0].id for one in defining.body if isinstance(one, ast.Assign)}
                    used = {one.id for one in ast.walk(tree) if isinstance(one, ast.Name)}
                    for one in node.names:
                        self.assertIn(one.name, defined, name)
                        self.assertIsNone(one.asname, name)
                        self.assertIn(one.name, used, name)

    def test_no_two_files_import_from_each_other(self):
        wanted = {name[:-3]: {node.module.split(".")[1] for node in ast.walk(tree) if isinstance(node, ast.ImportFrom)}
                  for name, _, tree in trees()}
        left = dict(wanted)
        while left:
            free = [name for name in left if not wanted[name] & set(left)]
            self.assertTrue(free, sorted(left))
            for name in free:
                del left[name]

    def test_ends_of_withs(self):
        for name, _, tree in trees():
            for function in functions(tree):
                if getattr(function, "name", "") != "__exit__":
                    continue
                tests = [node.test for node in ast.walk(function) if isinstance(node, ast.If)]
                for test in tests:
                    self.assertRegex(ast.unparse(test), r"^[a-z_.]+ is (not )?None$", name)
                for node in ast.walk(function):
                    if isinstance(node, ast.stmt):
                        self.assertIsInstance(node, (ast.FunctionDef, ast.If, ast.Assign), name)
                    if isinstance(node, ast.Assign):
                        self.assertIsInstance(node.targets[0], ast.Attribute, name)
                        self.assertIsInstance(node.value, (ast.Attribute, ast.Name, ast.Constant), name)

    def test_no_name_is_a_method_and_an_attribute(self):
        made = {function.name for _, _, tree in trees() for node in ast.walk(tree) if isinstance(node, ast.ClassDef)
                for function in node.body if isinstance(function, ast.FunctionDef) and not function.decorator_list}
        stored = {node.attr for _, _, tree in trees() for node in ast.walk(tree)
                  if isinstance(node, ast.Attribute) and isinstance(node.ctx, ast.Store)}
        self.assertFalse(made & stored)

    def test_names(self):
        for name, _, tree in trees():
            bound = {node.name for node in ast.walk(tree) if isinstance(node, ast.ClassDef)}
            bound |= {one.name for node in ast.walk(tree) if isinstance(node, ast.ImportFrom) for one in node.names}
            self.assertFalse(bound & bound_locally(tree), name)
            self.assertFalse((bound | bound_locally(tree)) & set(dir(builtins)), name)
            read = {node.id for node in ast.walk(tree) if isinstance(node, ast.Name) and isinstance(node.ctx, ast.Load)}
            self.assertLessEqual(read & set(dir(builtins)), USED_BUILTINS, name)

    def test_words(self):
        for name, _, tree in trees():
            for node in ast.walk(tree):
                for word in (getattr(node, "id", None), getattr(node, "attr", None), getattr(node, "arg", None),
                             getattr(node, "name", None)):
                    if word in ("__class__", "__name__"):
                        self.assertIsInstance(node, ast.Attribute, name)
                    else:
                        self.assertNotIn(word, NO_WORDS, (name, word))

    def test_calls(self):
        methods = VALUE_METHODS | own_methods()
        for name, _, tree in trees():
            for node in ast.walk(tree):
                if not isinstance(node, ast.Call):
                    continue
                if isinstance(node.func, ast.Attribute):
                    self.assertIn(node.func.attr, methods, (name, node.lineno))
                elif node.func.id in ("any", "all", "sum", "min", "max", "sorted"):
                    self.assertFalse([one for one in node.args if isinstance(one, ast.GeneratorExp)], (name, node.lineno))

    def test_loops_do_not_change_what_they_walk(self):
        for name, _, tree in trees():
            for function in functions(tree):
                self.assertEqual(changed_loops(function), [], name)

    def test_changed_loops_are_found(self):
        for text in ("for x in xs:\n  ys.append(x)\n xs = ys", "for x in xs:\n  xs.pop()", "xs = ys = zs\n for x in ys:\n  del zs[0]",
                     "for k, v in d.items():\n  d[v] = k", "for x in a if a else b:\n  b += [x]",
                     "for x in self.xs:\n  self.xs.append(x)", "xs, ys = ys, zs\n for x in xs:\n  zs.append(x)"):
            function = ast.parse("def f():\n " + text).body[0]
            self.assertNotEqual(changed_loops(function), [], text)
        for text in ("for x in xs:\n  ys.append(x)", "for x in list(xs):\n  xs.pop()", "for x in xs:\n  pass\n xs.append(x)"):
            function = ast.parse("def f():\n " + text).body[0]
            self.assertEqual(changed_loops(function), [], text)

    def test_properties(self):
        found = {True: set(), False: set()}
        settable = set()
        for _, _, tree in trees():
            for node in ast.walk(tree):
                if isinstance(node, ast.ClassDef):
                    for one in node.body:
                        if isinstance(one, ast.FunctionDef):
                            decorators = [ast.unparse(told) for told in one.decorator_list]
                            found[bool({"property", one.name + ".setter"} & set(decorators))].add(one.name)
                            settable.update(one.name for told in decorators if told.endswith(".setter"))
        assigned = {node.attr for _, _, tree in trees() for node in ast.walk(tree)
                    if isinstance(node, ast.Attribute) and isinstance(node.ctx, ast.Store)}
        self.assertFalse(found[True] & found[False])
        self.assertEqual(found[True] & assigned, settable)

    def test_generators(self):
        makers = [node.name for _, _, tree in trees() for node in functions(tree)
                  if any(isinstance(one, (ast.Yield, ast.YieldFrom)) for one in ast.walk(node))]
        names = [node.name for _, _, tree in trees() for node in functions(tree) if isinstance(node, ast.FunctionDef)]
        for maker in makers:
            self.assertEqual(names.count(maker), 1, maker)
            for _, _, tree in trees():
                self.assertNotIn(maker, bound_locally(tree))

    def test_methods(self):
        for name, _, tree in trees():
            for node in ast.walk(tree):
                if isinstance(node, ast.ClassDef):
                    methods = [one.name for one in node.body if isinstance(one, ast.FunctionDef)
                               and not any(isinstance(told, ast.Attribute) for told in one.decorator_list)]
                    self.assertEqual(len(methods), len(set(methods)), (name, node.name))
                    special = {method for method in methods if method.startswith("__")}
                    self.assertLessEqual(special, CLASS_METHODS, (name, node.name))
                    if "__getitem__" in methods:
                        self.assertIn("__iter__", methods, (name, node.name))


class TestInterface(unittest.TestCase):
    def test_defined_where_it_is_listed(self):
        for module, (classes, names) in INTERFACE.items():
            loaded = importlib.import_module("takendown." + module)
            for name in list(classes) + names.split():
                self.assertEqual(getattr(loaded, name).__module__, "takendown." + module)
            for name, methods in classes.items():
                for method in methods.split():
                    self.assertIn(method, vars(getattr(loaded, name)), (module, name))

    def test_parameters(self):
        for path, told in SIGNATURES.items():
            module, *names = path.split(".")
            thing = importlib.import_module("takendown." + module)
            for name in names:
                thing = getattr(thing, name)
            self.assertEqual(str(inspect.signature(thing)), told, path)

    def test_properties_and_static_methods(self):
        from takendown.bench import Bench
        from takendown.bodies import Body
        from takendown.console import Console
        from takendown.devices import Device
        from takendown.keepers import Keeper
        from takendown.machines import Machine
        from takendown.rows import Row
        from takendown.threads import Crowd, Gated, Guest, Work
        for kind, names in ((Body, "code size"), (Work, "label"), (Guest, "label"), (Crowd, "label"), (Gated, "gate"),
                            (Device, "armed flagged"), (Machine, "freed inside most touches"), (Keeper, "device row answer"),
                            (Bench, "bound"), (Console, "bench")):
            for name in names.split():
                self.assertIsInstance(vars(kind)[name], property)
        for name in ("shut", "locked"):
            self.assertIsInstance(vars(Row)[name], staticmethod)


if __name__ == "__main__":
    unittest.main()
