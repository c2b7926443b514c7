"""Loops in code that change what they walk, as far as the code shows it."""

import ast

HEAPS = ("heappush", "heappop", "heapify", "heapreplace", "heappushpop")
MODIFYING = tuple("append clear extend insert pop remove reverse setdefault update add discard popleft appendleft".split())
WALKERS = ("enumerate", "zip", "reversed", "map", "items", "keys", "values")


def called(node):
    """The name of what a call calls, "" for another node."""
    return getattr(node.func, "id", getattr(node.func, "attr", "")) if isinstance(node, ast.Call) else ""


def owners(node):
    """The names, and the attributes with a dot ahead, from which the expression reads; an item counts as its whole."""
    if isinstance(node, ast.IfExp):
        return owners(node.body) | owners(node.orelse)
    if isinstance(node, ast.BoolOp):
        return {name for value in node.values for name in owners(value)}
    if isinstance(node, ast.Subscript):
        return set() if isinstance(node.slice, ast.Slice) else owners(node.value)
    if isinstance(node, ast.Attribute):
        return {"." + node.attr}
    return {node.id} if isinstance(node, ast.Name) else set()


def walked(node):
    """The owners of what a loop walks that has this behind its `in`."""
    if called(node) in WALKERS:
        inner = [node.func.value] if isinstance(node.func, ast.Attribute) else node.args
        return {name for part in inner for name in walked(part)}
    return owners(node)


def targets(node):
    """The targets of an assignment or a `del`, those in a tuple one by one."""
    given = getattr(node, "targets", None) or [node.target]
    return [part for target in given for part in (target.elts if isinstance(target, ast.Tuple) else [target])]


def changed_at(node):
    """The owners of what the node itself changes."""
    if isinstance(node, (ast.Assign, ast.AugAssign, ast.Delete)):
        grows = isinstance(node, ast.AugAssign)
        changed = [target for target in targets(node) if grows or not isinstance(target, ast.Name)]
        # A slice that is assigned changes the whole.
        changed = [target.value if isinstance(target, ast.Subscript) else target for target in changed]
        return {name for target in changed for name in owners(target)}
    if called(node) in HEAPS:
        return owners(node.args[0])
    if called(node) in MODIFYING and isinstance(node.func, ast.Attribute):
        return owners(node.func.value)
    return set()


def changed_by(statements, methods, seen=()):
    """The owners of what the statements change, and the attributes that the methods change that they call."""
    changed = set()
    for node in [part for statement in statements for part in ast.walk(statement)]:
        changed |= changed_at(node)
        name = called(node)
        if name in methods and name not in seen and ast.unparse(node.func) == "self." + name:
            deep = changed_by(methods[name], methods, seen + (name,))
            changed |= {other for other in deep if other.startswith(".")}
    return changed


def same_things(function):
    """A function from each owner to one of those that some assignment in the function may make the same thing."""
    same = {}
    for node in ast.walk(function):
        for target, value in assigned_pairs(node):
            if not (isinstance(target, ast.Subscript) and isinstance(value, ast.Subscript)):
                group = set(owners(target))
                for name in owners(target) | owners(value):
                    group |= same.get(name, {name})
                same.update({name: group for name in group})
    return lambda name: min(same.get(name, {name}))


def assigned_pairs(node):
    """The pairs (target, value) of an assignment, those of tuples one by one."""
    if not isinstance(node, ast.Assign):
        return []
    found = []
    for target in node.targets:
        both = isinstance(target, ast.Tuple) and isinstance(node.value, ast.Tuple)
        found.extend(zip(target.elts, node.value.elts) if both else [(target, node.value)])
    return found


def changed_walks(tree, generators):
    """The lines of the loops in a file that change what they walk, or something of what a generator was passed."""
    methods = {}
    for node in ast.walk(tree):
        if isinstance(node, ast.FunctionDef):
            # Classes that share a method's name are not told apart.
            methods.setdefault(node.name, []).extend(node.body)
    lines = []
    for function in ast.walk(tree):
        loops = [node for node in ast.walk(function) if isinstance(node, ast.For)]
        if isinstance(function, ast.FunctionDef):
            same = same_things(function)
            for loop in loops:
                changed = changed_by(loop.body, methods)
                both = {same(name) for name in walked(loop.iter)} & {same(name) for name in changed}
                heads = [loop.iter] + values_of(function, walked(loop.iter))
                if both or any(changed & passed_to(generators, head, changed) for head in heads):
                    lines.append(loop.lineno)
    return lines


def values_of(function, names):
    """The values that the function assigns to these names: a list that is made ahead of the loop counts as its head."""
    pairs = [pair for node in ast.walk(function) for pair in assigned_pairs(node)]
    return [value for target, value in pairs if owners(target) & names]


def passed_to(generators, node, changed):
    """The owners that the generators in a loop's head are passed; of `self` all attributes count that are changed."""
    found = set()
    for call in [part for part in ast.walk(node) if called(part) in generators]:
        names = {part.id for part in ast.walk(call) if isinstance(part, ast.Name)}
        found |= names | ({name for name in changed if name.startswith(".")} if "self" in names else set())
    return found
