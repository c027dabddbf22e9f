"""The interface: modules, names, parameters, methods and class values, and in which order modules need one another."""

import ast
import importlib
import inspect
import pathlib
import unittest

import unseenslopes

ORDER = """errors ratios unseen forms calculus programs meaning tagged curves witnesses places verdicts rules blanks reach codes tracing
    back packing notebook pages""".split()
FUNCTIONS = {
    "unseen": ["is_name(value)"],
    "forms": ["constant(number)"],
    "calculus": ["input_form(world, name)", "unseen_at(world, name, orders, given)", "integral_of(world, begin, end, name)", "slope_of(world, form, name)",
                 "put_for(world, form, name, other)"],
    "meaning": ["meaning(program)"],
    "tagged": ["machine_form(program, rule)"],
    "places": ["witness_for(world, form)"],
    "verdicts": ["compare(one, other)", "compare_near(one, other, *, name, power)", "order_of(one, other, *, name, most=6)"],
    "rules": ["try_rule(program, rule)", "right_rules(program)"],
    "blanks": ["fill(one, other, *, name=None, power=None)"],
    "reach": ["hangs_on(program, name)", "reads(program, name)", "is_additive(program, name)", "can_exchange(program, one, other)"],
    "tracing": ["trace(program)"],
    "back": ["way_back(code, index=0)"],
    "packing": ["shared(code)", "alive_counts(code)", "packed(code)"],
    "pages": ["write_page(book)", "read_page(text)"],
}
CLASSES = {
    "ratios": {"Ratio(top, bottom=1)": "whole over(other) read(text) + - * r+ r- r* neg abs == str repr"},
    "unseen": {
        "Unseen(arity=1, *, mirror=None, centre=0, degree=None, swap=None)": "is_free read(text) == str repr",
        "World(inputs, functions)": "inputs() functions() fact(name) with_fact(name,fact) in len == str repr",
    },
    "forms": {"Form": "is_zero terms() + - * r+ r- r* neg ** == str repr"},
    "programs": {"Program(world, text)": "blanks() filled(numbers) in_world(world) renamed(names) == str repr"},
    "tagged": {"Rule(naming='new', *, renewed=True)": "every() == str repr"},
    "curves": {
        "Curve(worths)": "worths() degree_of slope_curve(times=1) integral_curve(begin=0) call(place) == str repr",
        "Sheet(rows)": "told_rows() slope_sheet(which) swapped() call(one,other) == str repr",
    },
    "witnesses": {
        "Witness(world, *, inputs, functions)": "number_of(name) shape_of(name) worth(form) answer(program) slope_answer(program,name,times=1) told() == repr",
    },
    "verdicts": {
        "Verdict(one, other, name=None, power=None)": "holds() bool repr",
        "Alike(one, other, name=None, power=None)": "holds()",
        "Apart(one, other, witness, name=None, power=None, order=0)": "holds() answers()",
    },
    "rules": {"Trial(program, rule, witness=None)": "is_right answers() holds() bool repr"},
    "blanks": {
        "Filling(one, other, point, directions, *, name=None, power=None)": "point() directions() programs(*multiples) holds() repr",
        "NoFilling(one, other, weights, *, name=None, power=None)": "weights() holds() repr",
    },
    "codes": {"Code(world, code_rows, answers)": "listing() answer_slots() width forms() numbers(witness) len == str repr"},
    "notebook": {
        "Notebook(world)": """is_supposing names() put(name,text) get set drop(name) rename(name,fresh) assume(name,fact) undo() redo() history()
            program_of(name) verdict(one,other) kept() under(ask,**facts) twin() in len == repr""",
    },
}
SIGNS = {
    "+": "__add__", "-": "__sub__", "*": "__mul__", "r+": "__radd__", "r-": "__rsub__", "r*": "__rmul__", "neg": "__neg__", "abs": "__abs__", "==": "__eq__",
    "str": "__str__", "repr": "__repr__", "in": "__contains__", "len": "__len__", "**": "__pow__", "bool": "__bool__", "get": "__getitem__", "set": "__setitem__",
    "call": "__call__",
}
ERRORS = {
    "SlopeError": ["InvalidName(given)", "InvalidNumber(given)", "InvalidFact(what)", "InvalidText(at)", "WrongKind(at)", "InvalidBlank(at)", "NameTaken(name)",
                   "TooLarge(what, limit)", "UnlikeWorlds()", "InvalidWitness(name)", "InvalidRow(index)", "NotNow(deed)", "InvalidPage(line)"],
    "Missing": ["UnknownName(name)", "NothingLeft(deed)"],
}
FOLDER = pathlib.Path(unseenslopes.__file__).parent


def module(name):
    return importlib.import_module(f"unseenslopes.{name}")


class TestInterface(unittest.TestCase):
    def test_functions(self):
        for name, texts in FUNCTIONS.items():
            for text in texts:
                function = vars(module(name))[text.partition("(")[0]]
                self.assertEqual(function.__module__, f"unseenslopes.{name}")
                self.assertEqual(function.__name__ + str(inspect.signature(function)), text)

    def test_classes(self):
        for name, classes in CLASSES.items():
            for text, methods in classes.items():
                made = vars(module(name))[text.partition("(")[0]]
                self.assertEqual(made.__module__, f"unseenslopes.{name}")
                if "(" in text:
                    self.assertEqual(made.__name__ + str(inspect.signature(made)), text)
                for method in methods.split():
                    self.check_method(made, method)

    def check_method(self, made, text):
        name, sign, parameters = text.partition("(")
        name = SIGNS.get(name, name)
        self.assertIn(name, vars(made), made)
        found = vars(made)[name]
        if isinstance(found, property):
            self.assertEqual(sign, "")
        elif sign:
            given = list(inspect.signature(getattr(made, name)).parameters.values())
            given = given if isinstance(found, staticmethod) else given[1:]
            self.assertEqual(",".join(map(str, given)) + ")", parameters, (made, name))

    def test_class_values(self):
        self.assertEqual(module("unseen").World.MOST, 4)
        self.assertEqual(module("notebook").Notebook.MOST, 12)
        kinds = [vars(module("verdicts"))[name].KIND for name in ("Verdict", "Alike", "Apart")]
        self.assertEqual(kinds, ["open", "alike", "apart"])
        self.assertEqual((module("blanks").Filling.KIND, module("blanks").NoFilling.KIND), ("filled", "barred"))

    def test_errors(self):
        made = vars(module("errors"))
        for base, texts in ERRORS.items():
            self.assertIs(made[base].__base__, ValueError if base == "SlopeError" else LookupError)
            for text in texts:
                name = text.partition("(")[0]
                self.assertEqual(name + str(inspect.signature(made[name])), text)
                self.assertEqual(made[name].__bases__, (made[base],))

    def test_order_of_modules(self):
        """Each module of the interface needs, also through helpers, only those above it."""
        needs = {}
        for path in FOLDER.glob("*.py"):
            tree = ast.parse(path.read_text(encoding="utf-8"))
            found = [node.module for node in ast.walk(tree) if isinstance(node, ast.ImportFrom) and node.module.startswith("unseenslopes.")]
            needs[path.stem] = [name.removeprefix("unseenslopes.") for name in found]
        for at, name in enumerate(ORDER):
            waiting, reached = [name], set()
            while waiting:
                for other in needs[waiting.pop()]:
                    if other not in reached:
                        reached.add(other)
                        waiting.append(other)
            self.assertFalse(reached & set(ORDER[at:]), name)


if __name__ == "__main__":
    unittest.main()
