"""Checks the files of the package against the rules of the language subset that can be seen in one file.

It is narrower than the rules in places: what the package does not need it does not let.
Usage: python3 .ci/language.py; it prints what it finds, and exits with 1 if it finds anything.
"""

import ast
import builtins
import pathlib
import sys

ROOT = pathlib.Path(__file__).resolve().parent.parent
PACKAGE = ROOT / "oneistrue"
LIBRARY = {"math": {"gcd", "lcm"}}
BUILTINS = set(
    "len range enumerate zip min max sum abs sorted int str bool list tuple dict set isinstance any all"
    " property ValueError iter".split()
)
METHODS = set("append pop get join split startswith partition isdigit isascii count index".split())
CHANGING = set("append clear extend insert pop remove reverse sort update setdefault".split())
EAGER = set("list tuple sorted sum any all min max enumerate zip".split())
DUNDERS = set("__init__ __len__ __iter__ __contains__ __eq__ __getitem__ __add__ __call__".split())
BARRED = (
    ast.AsyncFunctionDef, ast.Await, ast.Global, ast.Nonlocal, ast.Lambda, ast.GeneratorExp, ast.NamedExpr,
    ast.Yield, ast.YieldFrom, ast.With, ast.Match, ast.Delete, ast.Assert, ast.Starred, ast.Div, ast.Mod,
    ast.Pow, ast.Set, ast.AnnAssign, ast.Import,
)
WORDS = set(
    "register mro elements open input law attrgetter builtins compile copyright credits delattr dir eval exec"
    " exit gc getattr globals hasattr help id importlib license locals methodcaller os quit setattr super"
    " type vars sys typing enum Generic Protocol namedtuple dataclass overload contextmanager".split()
)
found = []


def tell(path, node, text):
    found.append(f"{path.name}:{getattr(node, 'lineno', node)}: {text}")


def check_text(path, text):
    lines = text.split("\n")
    if len(lines) > 399:
        tell(path, 0, "too many lines")
    if any(ch != "\n" and not " " <= ch <= "~" for ch in text):
        tell(path, 0, "a character beyond the space to ~")
    for number, line in enumerate(lines, 1):
        if len(line) > 120 or line != line.rstrip():
            tell(path, number, "line too long, or blanks at its end")
    if not text.endswith("\n") or text.endswith("\n\n"):
        tell(path, 0, "the end of the file")


def is_plain(node):
    if isinstance(node, ast.Tuple):
        return all(is_plain(part) for part in node.elts)
    return isinstance(node, ast.Constant)


def check_module(path, tree):
    names = {}
    for at, node in enumerate(tree.body):
        if isinstance(node, ast.ImportFrom):
            for alias in node.names:
                if alias.asname or node.level:
                    tell(path, node, "an import's form")
                names.setdefault(alias.name, []).append(node)
        elif isinstance(node, (ast.FunctionDef, ast.ClassDef)):
            names.setdefault(node.name, []).append(node)
        elif isinstance(node, ast.Assign):
            if len(node.targets) != 1 or not isinstance(node.targets[0], ast.Name) or not is_plain(node.value):
                tell(path, node, "no plain value")
            names.setdefault(ast.unparse(node.targets[0]), []).append(node)
        elif not (at == 0 and isinstance(node, ast.Expr) and isinstance(node.value, ast.Constant)):
            tell(path, node, "may not stand at module level")
    for name, nodes in names.items():
        if len(nodes) > 1 or hasattr(builtins, name):
            tell(path, nodes[-1], f"name {name}")
    return names


def assigned_in(function):
    names = [arg.arg for arg in function.args.args + function.args.kwonlyargs]
    names += [node.id for node in ast.walk(function) if isinstance(node, ast.Name) and isinstance(node.ctx, ast.Store)]
    return names


def check_function(path, node, imports, classes):
    if node.end_lineno - node.lineno + 1 > 40:
        tell(path, node, "too long")
    if any(ast.unparse(part) != "property" for part in node.decorator_list):
        tell(path, node, "a decorator")
    args = node.args
    if args.vararg or args.kwarg or args.posonlyargs or args.defaults or any(args.kw_defaults) or node.returns:
        tell(path, node, "parameters")
    if args.kwonlyargs and (node.name in METHODS or node.name.startswith("__")):
        tell(path, node, "parameters by name alone")
    if node.name.startswith("__") and node.name not in DUNDERS:
        tell(path, node, "a method's name")
    for name in assigned_in(node):
        if hasattr(builtins, name) or name in imports or name in classes or name in WORDS:
            tell(path, node, f"local name {name}")
    inner = [part for part in ast.walk(node) if isinstance(part, ast.FunctionDef)]
    if len(inner) > 1:
        tell(path, node, "a nested function")
    check_comprehensions(path, node)
    check_loops(path, node)


def stores(nodes):
    return {
        part.id for node in nodes for part in ast.walk(node)
        if isinstance(part, ast.Name) and isinstance(part.ctx, ast.Store)
    }


def check_comprehensions(path, function):
    kinds = (ast.ListComp, ast.SetComp, ast.DictComp)
    comps = [node for node in ast.walk(function) if isinstance(node, kinds)]
    own = {id(part) for comp in comps for part in ast.walk(comp)}
    outer = {arg.arg for arg in function.args.args + function.args.kwonlyargs} | {
        node.id for node in ast.walk(function)
        if isinstance(node, ast.Name) and isinstance(node.ctx, ast.Store) and id(node) not in own
    }
    for comp in comps:
        names = stores([part.target for part in comp.generators])
        for inside in comps:
            if inside is not comp and any(part is inside for part in ast.walk(comp)):
                if names & stores([part.target for part in inside.generators]) - {"_"}:
                    tell(path, comp, "a name twice in comprehensions")
        if (names & outer) - {"_"}:
            tell(path, comp, f"a comprehension's name assigned outside: {names & outer}")


def check_call(path, node, parent, own):
    if isinstance(node.func, ast.Attribute):
        if node.func.attr not in METHODS | own["methods"] or node.keywords:
            tell(path, node, f"method {node.func.attr}")
        return
    if not isinstance(node.func, ast.Name):
        tell(path, node, "what is called")
        return
    name = node.func.id
    if node.keywords and not (name == "max" and [word.arg for word in node.keywords] == ["default"]):
        tell(path, node, "keywords")
    if name in ("range", "zip", "enumerate", "reversed", "map") and not at_once(node, parent):
        tell(path, node, f"{name} is not iterated at once")
    if name == "set" and not (isinstance(parent, ast.Call) and parent.func.id in ("sorted", "len")):
        tell(path, node, "a set")
    if name in own["functions"] and len(node.args) != own["functions"][name]:
        tell(path, node, f"{name} takes {own['functions'][name]}")


def sources_of(node):
    """The names of the very lists that the value may be: not of copies, slices or other results."""
    if isinstance(node, ast.IfExp):
        return sources_of(node.body) | sources_of(node.orelse)
    if isinstance(node, ast.BoolOp):
        return {name for part in node.values for name in sources_of(part)}
    if isinstance(node, (ast.Name, ast.Attribute)):
        return {ast.unparse(node)}
    return set()


def walked_names(node):
    """The names of the lists that a loop goes over, also through enumerate and zip."""
    if isinstance(node, ast.Call) and isinstance(node.func, ast.Name) and node.func.id in ("enumerate", "zip"):
        return {name for part in node.args for name in walked_names(part)}
    return sources_of(node)


def groups_in(function):
    """For each name all names that an assignment somewhere in the function may give to the same list."""
    groups = {}
    for node in ast.walk(function):
        if isinstance(node, ast.Assign):
            for target in node.targets:
                pairs = [(target, node.value)]
                if isinstance(target, ast.Tuple) and isinstance(node.value, ast.Tuple):
                    pairs = list(zip(target.elts, node.value.elts))
                for one, other in pairs:
                    names = {ast.unparse(one)} | sources_of(other)
                    whole = set(names).union(*[groups.get(name, set()) for name in names])
                    for name in whole:
                        groups[name] = whole
    return groups


def changed_in(nodes):
    """The names of what is changed in place: by an item, or by a method that changes a list."""
    names = set()
    for node in nodes:
        for part in ast.walk(node):
            if isinstance(part, ast.Subscript) and isinstance(part.ctx, ast.Store):
                names |= sources_of(part.value)
            if isinstance(part, ast.Call) and isinstance(part.func, ast.Attribute) and part.func.attr in CHANGING:
                names |= sources_of(part.func.value)
    return names


def check_loops(path, function):
    """What a loop goes over has no name by which the loop changes a list."""
    groups = groups_in(function)
    for node in ast.walk(function):
        if isinstance(node, ast.For):
            changed = changed_in(node.body)
            for name in walked_names(node.iter):
                if groups.get(name, {name}) & changed:
                    tell(path, node, f"the loop changes what it goes over: {name}")


def at_once(node, parent):
    if isinstance(parent, (ast.For, ast.comprehension)):
        return parent.iter is node
    if isinstance(parent, ast.Call):
        return isinstance(parent.func, ast.Name) and parent.func.id in EAGER
    return isinstance(parent, ast.Assign) and node.func.id == "range"


def check_node(path, node, parent, own):
    if isinstance(node, BARRED):
        tell(path, node, type(node).__name__)
    if isinstance(node, ast.Constant):
        if isinstance(node.value, (float, complex, bytes)):
            tell(path, node, "a value")
        if isinstance(node.value, str) and "%" in node.value:
            tell(path, node, "the character for remainders")
    if isinstance(node, ast.Compare):
        for sign, side in zip(node.ops, node.comparators):
            plain = isinstance(side, ast.Constant) and side.value in (None, True, False)
            if isinstance(sign, (ast.Is, ast.IsNot)) and not plain:
                tell(path, node, "is")
    if isinstance(node, ast.AugAssign) and not isinstance(node.value, ast.Constant):
        tell(path, node, "an assignment with a sign")
    if isinstance(node, ast.SetComp) and not (isinstance(parent, ast.Call) and parent.func.id in ("sorted", "len")):
        tell(path, node, "a set")
    if isinstance(node, ast.Call):
        check_call(path, node, parent, own)
    if isinstance(node, ast.Raise) and not (node.exc is None and isinstance(parent, ast.ExceptHandler)):
        call = node.exc
        if not (isinstance(call, ast.Call) and isinstance(call.func, ast.Name) and call.func.id in own["errors"]):
            tell(path, node, "raise")
    if isinstance(node, ast.ExceptHandler) and ast.unparse(node.type) not in own["errors"]:
        tell(path, node, "except")
    if isinstance(node, ast.Name) and isinstance(node.ctx, ast.Load):
        check_name(path, node, parent, own)


def check_name(path, node, parent, own):
    called = isinstance(parent, ast.Call) and parent.func is node
    if hasattr(builtins, node.id):
        if node.id not in BUILTINS:
            tell(path, node, f"builtin {node.id}")
        kind = isinstance(parent, ast.Call) and ast.unparse(parent.func) == "isinstance"
        if not called and not kind and node.id not in ("property", "ValueError"):
            tell(path, node, f"builtin {node.id} as a value")
    if node.id in own["functions"] and not called:
        tell(path, node, f"function {node.id} as a value")


def check_tree(path, tree, own):
    for parent in ast.walk(tree):
        for node in ast.iter_child_nodes(parent):
            check_node(path, node, parent, own)


def check_class(path, node):
    methods = [part.name for part in node.body if isinstance(part, ast.FunctionDef)]
    if len(methods) != len(set(methods)) or node.decorator_list or node.keywords:
        tell(path, node, "a class")
    for part in node.body:
        if not isinstance(part, (ast.FunctionDef, ast.Expr)):
            tell(path, part, "may not stand in a class")
    attributes = {
        part.attr for part in ast.walk(node)
        if isinstance(part, ast.Attribute) and isinstance(part.ctx, ast.Store)
    }
    if attributes & set(methods):
        tell(path, node, "a name of a method and of an attribute")


def check_imports(trees, defined):
    after = {}
    for path, tree in trees.items():
        after[path.stem] = []
        for node in tree.body:
            if not isinstance(node, ast.ImportFrom):
                continue
            if node.module in LIBRARY:
                bad = [alias.name for alias in node.names if alias.name not in LIBRARY[node.module]]
            else:
                stem = node.module.removeprefix("oneistrue.")
                after[path.stem].append(stem)
                bad = [alias.name for alias in node.names if alias.name not in defined.get(stem, ())]
            used = {part.id for part in ast.walk(tree) if isinstance(part, ast.Name)}
            bad += [alias.name for alias in node.names if alias.name not in used]
            if bad:
                tell(path, node, f"imports {bad}")
    done = []
    while len(done) < len(after):
        ready = [stem for stem in after if stem not in done and all(other in done for other in after[stem])]
        if not ready:
            found.append(f"files import from each other: {sorted(set(after) - set(done))}")
            return
        done += ready


def main():
    paths = sorted(PACKAGE.iterdir())
    for path in paths:
        if path.suffix != ".py" and path.name != "__pycache__":
            tell(path, 0, "does not belong here")
    trees = {path: ast.parse(path.read_text("utf-8")) for path in paths if path.suffix == ".py"}
    classes = [node for tree in trees.values() for node in tree.body if isinstance(node, ast.ClassDef)]
    methods = {part.name for node in classes for part in node.body if isinstance(part, ast.FunctionDef)}
    errors = {node.name for node in ast.walk(trees[PACKAGE / "errors.py"]) if isinstance(node, ast.ClassDef)}
    defined = {
        path.stem: {node.name for node in tree.body if isinstance(node, (ast.FunctionDef, ast.ClassDef))}
        for path, tree in trees.items()
    }
    for path, tree in trees.items():
        check_text(path, path.read_text("utf-8"))
        check_module(path, tree)
        imports = {alias.name for node in tree.body if isinstance(node, ast.ImportFrom) for alias in node.names}
        own_classes = {node.name for node in tree.body if isinstance(node, ast.ClassDef)}
        functions = visible_functions(path, tree, trees)
        for node in ast.walk(tree):
            if isinstance(node, ast.FunctionDef):
                check_function(path, node, imports, own_classes)
            if isinstance(node, ast.ClassDef):
                check_class(path, node)
        check_tree(path, tree, {"methods": methods, "errors": errors, "functions": functions})
    check_imports(trees, defined)
    print("\n".join(found + [f"{len(trees)} files checked, {len(found)} faults"]))
    sys.exit(1 if found else 0)


def visible_functions(path, tree, trees):
    """The functions that a file defines or imports, each with the number of its parameters."""
    seen = {node.name: len(node.args.args) for node in tree.body if isinstance(node, ast.FunctionDef)}
    for node in tree.body:
        if isinstance(node, ast.ImportFrom) and node.module.startswith("oneistrue."):
            other = trees[PACKAGE / (node.module.removeprefix("oneistrue.") + ".py")]
            counts = {part.name: len(part.args.args) for part in other.body if isinstance(part, ast.FunctionDef)}
            seen.update({alias.name: counts[alias.name] for alias in node.names if alias.name in counts})
    return seen


main()
