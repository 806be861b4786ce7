"""Some rules of the program's part of Python, each a function of a file's tree that tells the wrong nodes."""

import ast
import builtins

KEYWORDS = {"sorted": {"key", "reverse"}, "min": {"key", "default"}, "max": {"key", "default"},
            "sum": {"start"}, "enumerate": {"start"}, "zip": {"strict"}}
KEYS = {"len", "int", "str", "abs", "sum", "min", "max", "tuple"}
WALKED = {"zip", "enumerate", "reversed", "range"}
WALKED_METHODS = {"items", "keys", "values"}
WALKERS = {"list", "tuple", "dict", "sorted", "sum", "any", "all", "enumerate", "zip", "bytes", "min", "max"}
CHANGES = {"append", "clear", "extend", "insert", "pop", "remove", "reverse", "setdefault", "update", "sort"}
NOT_USED = set("""register mro elements open input version_info with_traceback add_note attrgetter breakpoint
builtins compile copyright credits delattr dir eval exec exit gc getattr globals hasattr help id importlib
license locals methodcaller os quit setattr super type vars sys __name__ format format_map""".split())
LOOPS = (ast.For, ast.While)
COMPREHENSIONS = (ast.ListComp, ast.SetComp, ast.DictComp)


def parents_of(tree):
    return {child: node for node in ast.walk(tree) for child in ast.iter_child_nodes(node)}


def nodes_in(tree, kind):
    return [node for node in ast.walk(tree) if isinstance(node, kind)]


def is_call(node, names):
    return isinstance(node, ast.Call) and isinstance(node.func, ast.Name) and node.func.id in names


def is_plain(node):
    """A value that may stand at a file's top."""
    if isinstance(node, (ast.List, ast.Tuple)):
        return all(is_plain(item) for item in node.elts)
    if isinstance(node, ast.Dict):
        return all(is_plain(item) for item in node.keys + node.values)
    if isinstance(node, ast.BinOp):
        return is_plain(node.left) and is_plain(node.right)
    if isinstance(node, ast.UnaryOp):
        return is_plain(node.operand)
    return isinstance(node, (ast.Constant, ast.Name))


def wrong_at_the_top(tree):
    for at, row in enumerate(tree.body):
        if at == 0 and isinstance(row, ast.Expr) and isinstance(row.value, ast.Constant):
            continue
        if isinstance(row, ast.Assign) and len(row.targets) == 1 and is_plain(row.value):
            continue
        if not isinstance(row, (ast.ImportFrom, ast.FunctionDef, ast.ClassDef)):
            yield row


def bound_twice(tree):
    seen = set()
    for row in tree.body:
        names = [row.name] if isinstance(row, (ast.FunctionDef, ast.ClassDef)) else []
        if isinstance(row, ast.ImportFrom):
            names = [drawn.asname or drawn.name for drawn in row.names]
        if isinstance(row, ast.Assign):
            names = [target.id for target in row.targets]
        if seen & set(names):
            yield row
        seen.update(names)


def called_like_an_import(tree):
    taken = {drawn.name for row in nodes_in(tree, ast.ImportFrom) for drawn in row.names}
    taken |= {row.name for row in nodes_in(tree, ast.ClassDef)}
    for node in nodes_in(tree, (ast.Name, ast.arg)):
        given = isinstance(node, ast.arg) or isinstance(node.ctx, ast.Store)
        if given and (node.arg if isinstance(node, ast.arg) else node.id) in taken:
            yield node


def names_not_used(tree):
    for node in nodes_in(tree, (ast.Name, ast.arg, ast.keyword, ast.Attribute, ast.FunctionDef)):
        for field in ("id", "arg", "attr", "name"):
            if getattr(node, field, None) in NOT_USED:
                yield node


def own_names_kept(tree):
    """Python's own functions that are not called on the spot."""
    parents = parents_of(tree)
    for node in nodes_in(tree, ast.Name):
        if not isinstance(node.ctx, ast.Load) or not hasattr(builtins, node.id):
            continue
        above = parents[node]
        if isinstance(above, ast.Call) and above.func is node:
            continue
        if isinstance(above, ast.keyword) and above.arg == "key" and node.id in KEYS:
            continue
        if isinstance(getattr(builtins, node.id), type):
            # Kinds and error classes: by isinstance, except, raise, as a base, ahead of a dot.
            if isinstance(above, ast.Tuple):
                above = parents[above]
            if is_call(above, {"isinstance"}) or isinstance(
                    above, (ast.ExceptHandler, ast.Raise, ast.ClassDef, ast.Attribute)):
                continue
        yield node


def wrong_keywords(tree):
    for node in nodes_in(tree, ast.Call):
        names = {word.arg for word in node.keywords}
        if isinstance(node.func, ast.Name) and hasattr(builtins, node.func.id):
            if not names <= KEYWORDS.get(node.func.id, set()):
                yield node
        if isinstance(node.func, ast.Attribute) and not names <= {"key", "reverse", "signed"}:
            yield node


def is_walk(node):
    if is_call(node, WALKED):
        return True
    return (isinstance(node, ast.Call) and isinstance(node.func, ast.Attribute)
            and node.func.attr in WALKED_METHODS)


def not_walked_at_once(tree):
    parents = parents_of(tree)
    for node in nodes_in(tree, ast.Call):
        if not is_walk(node):
            continue
        above = parents[node]
        if isinstance(above, (ast.For, ast.comprehension)) and above.iter is node:
            continue
        if is_call(above, WALKERS) and above.args[0] is node:
            continue
        if is_call(above, {"reversed", "len"}) and is_call(node, {"range"}):
            continue
        if isinstance(above, ast.Compare) and isinstance(above.ops[0], (ast.In, ast.NotIn)):
            continue
        if isinstance(above, ast.Call) and isinstance(above.func, ast.Attribute) and above.func.attr == "join":
            continue
        yield node


def changed_while_walked(tree):
    for loop in nodes_in(tree, ast.For):
        walked = {ast.dump(loop.iter)}
        if isinstance(loop.iter, ast.Call):
            walked |= {ast.dump(handed) for handed in loop.iter.args}
            walked.add(ast.dump(getattr(loop.iter.func, "value", loop.iter)))
        for row in loop.body:
            for node in nodes_in(row, ast.Call):
                if isinstance(node.func, ast.Attribute) and node.func.attr in CHANGES:
                    if ast.dump(node.func.value) in walked:
                        yield node


def is_set(node):
    return isinstance(node, (ast.Set, ast.SetComp)) or is_call(node, {"set", "frozenset"})


def sets_out_of_place(tree):
    """Sets that are walked, handed on or kept otherwise than by a local name of their own."""
    parents = parents_of(tree)
    for node in ast.walk(tree):
        if not is_set(node):
            continue
        above = parents[node]
        while isinstance(above, ast.BinOp):
            node, above = above, parents[above]
        if isinstance(above, ast.Compare) or is_call(above, {"sorted", "len"}):
            continue
        if isinstance(above, ast.Assign) and is_set(node) and len(above.targets) == 1:
            if isinstance(above.targets[0], ast.Name):
                continue
        yield node


def kept_sets_misused(tree):
    for scope in nodes_in(tree, ast.FunctionDef):
        parents = parents_of(scope)
        for row in nodes_in(scope, ast.Assign):
            if not is_set(row.value):
                continue
            name = getattr(row.targets[0], "id", None)
            for node in nodes_in(scope, ast.Name):
                if node.id == name and node is not row.targets[0] and not kept_set_asked(node, parents):
                    yield node


def kept_set_asked(node, parents):
    above = parents[node]
    if isinstance(node.ctx, ast.Store):
        return False
    if isinstance(above, ast.Attribute):
        return above.attr in ("add", "discard") and isinstance(parents[parents[above]], ast.Expr)
    if isinstance(above, ast.Compare) or is_call(above, {"len", "sorted"}):
        return True
    return isinstance(above, (ast.If, ast.While, ast.Assert)) or isinstance(above, ast.UnaryOp)


def wrong_loops_and_tries(tree):
    for node in nodes_in(tree, LOOPS):
        if node.orelse:
            yield node
    for node in nodes_in(tree, ast.ExceptHandler):
        kinds = node.type.elts if isinstance(node.type, ast.Tuple) else [node.type]
        names = [getattr(kind, "id", None) for kind in kinds]
        if not names or set(names) & {None, "Exception", "TypeError"}:
            yield node
    for node in nodes_in(tree, ast.Raise):
        if node.exc is not None and not is_call(node.exc, {getattr(getattr(node.exc, "func", None), "id", None)}):
            yield node


def wrong_forms(tree):
    for node in nodes_in(tree, ast.FormattedValue):
        if node.format_spec is not None:
            yield node
    for node in nodes_in(tree, COMPREHENSIONS):
        if len(node.generators) > 6 or sum(len(part.ifs) for part in node.generators) > 12:
            yield node
    seen = set()
    for node in nodes_in(tree, ast.Lambda):
        form = (node.lineno, tuple(one.arg for one in node.args.args))
        if form in seen:
            yield node
        seen.add(form)


def wrong_defaults(tree):
    for node in nodes_in(tree, (ast.FunctionDef, ast.Lambda)):
        for value in node.args.defaults + [one for one in node.args.kw_defaults if one is not None]:
            if not is_plain(value) or isinstance(value, (ast.List, ast.Dict)):
                yield node


def wrong_classes(tree):
    top = set(tree.body)
    for node in nodes_in(tree, ast.ClassDef):
        if node not in top or len(node.bases) > 1 or node.decorator_list or node.keywords:
            yield node
        for at, row in enumerate(node.body):
            said = at == 0 and isinstance(row, ast.Expr) and isinstance(row.value, ast.Constant)
            if not said and not isinstance(row, ast.FunctionDef):
                yield row


def tables_misused(tree):
    """Lists and dicts of a file's top that hold such, are changed, or are handed on but as a copy."""
    tables = {row.targets[0].id: row.value for row in tree.body
              if isinstance(row, ast.Assign) and isinstance(row.value, (ast.List, ast.Dict))}
    for value in tables.values():
        yield from nodes_in(value, (ast.List, ast.Dict))[1:]
    parents = parents_of(tree)
    for node in nodes_in(tree, ast.Name):
        if node.id in tables and isinstance(node.ctx, ast.Load) and not table_read(node, parents):
            yield node


def table_read(node, parents):
    above = parents[node]
    if isinstance(above, ast.Subscript):
        return above.value is node and isinstance(above.ctx, ast.Load)
    if isinstance(above, ast.Attribute):
        return above.attr in WALKED_METHODS | {"get", "index", "count", "copy"}
    if isinstance(above, (ast.For, ast.comprehension)):
        return above.iter is node
    return isinstance(above, ast.Compare) or is_call(above, WALKERS | {"len"})


def classes_kept(tree):
    """Classes that stand elsewhere than at a call, a base, isinstance, except or raise."""
    classes = {row.name for row in nodes_in(tree, ast.ClassDef)}
    classes |= {drawn.name for row in nodes_in(tree, ast.ImportFrom) for drawn in row.names if drawn.name[0].isupper()
                and not drawn.name.isupper()}
    parents = parents_of(tree)
    for node in nodes_in(tree, ast.Name):
        above = parents[node]
        if node.id not in classes or isinstance(above, (ast.ClassDef, ast.ExceptHandler, ast.Raise)):
            continue
        if isinstance(above, ast.Call) and (above.func is node or is_call(above, {"isinstance"})):
            continue
        if isinstance(above, ast.Attribute) and above.attr == "__init__":
            continue
        yield node


RULES = (tables_misused, classes_kept, wrong_at_the_top, bound_twice, called_like_an_import, names_not_used,
         own_names_kept, wrong_keywords, not_walked_at_once, changed_while_walked, sets_out_of_place,
         kept_sets_misused, wrong_loops_and_tries, wrong_forms, wrong_defaults, wrong_classes)

# What each rule must see, so that a rule that sees nothing is found out.
WRONG = {
    tables_misused: ("XS = [[1]]", "XS = {1: []}", "XS = [1]\ndef f(x):\n    XS.append(x)",
                     "XS = [1]\ndef f(x):\n    XS[0] = x", "XS = [1]\ndef f(x):\n    return XS",
                     "XS = {1: 2}\ndef f(x):\n    return f(XS)"),
    classes_kept: ("class A:\n    pass\nXS = [A]", "from a.b import Bad\ndef f(x):\n    return Bad",
                   "class A:\n    pass\ndef f(x):\n    y = A"),
    wrong_at_the_top: ("for k in XS:\n    pass", "XS = sorted(YS)", "XS = [k for k in YS]", "print(3)"),
    bound_twice: ("A = 1\nA = 2", "from a.b import c\ndef c():\n    pass"),
    called_like_an_import: ("from a.b import c\ndef d(c):\n    return 1", "from a.b import c\ndef d():\n    c = 1"),
    names_not_used: ("def f(x):\n    return type(x)", "def f(id):\n    return 1"),
    own_names_kept: ("def f(x):\n    y = len\n    return y(x)", "def f(x):\n    return max(x, key=repr)"),
    wrong_keywords: ("def f(x):\n    return int(x, base=2)", "def f(x):\n    return x.split(sep=1)"),
    not_walked_at_once: ("def f(x):\n    y = range(3)", "def f(x):\n    return x.items()"),
    changed_while_walked: ("def f(x):\n    for k in x:\n        x.append(k)",
                           "def f(x):\n    for k, y in enumerate(x):\n        x.pop()"),
    sets_out_of_place: ("def f(x):\n    for k in set(x):\n        pass", "def f(x):\n    return {k for k in x}",
                        "def f(x):\n    return tuple(set(x))"),
    kept_sets_misused: ("def f(x):\n    y = set(x)\n    return y",
                        "def f(x):\n    y = set(x)\n    for k in y:\n        pass",
                        "def f(x):\n    y = set()\n    y = set(x)",
                        "def f(x):\n    y = set()\n    y.update(x)"),
    wrong_loops_and_tries: ("def f(x):\n    for k in x:\n        pass\n    else:\n        pass",
                            "def f(x):\n    try:\n        pass\n    except Exception:\n        pass",
                            "def f(x):\n    raise x"),
    wrong_forms: ("def f(x):\n    return f'{x:3}'", "def f(x):\n    return (lambda a: 1, lambda a: 2)"),
    wrong_defaults: ("def f(x=[]):\n    pass", "def f(x=len(A)):\n    pass"),
    wrong_classes: ("class A:\n    b = 1", "class A(B, C):\n    pass",
                    "def f():\n    class A:\n        def g(self):\n            return 1"),
}
