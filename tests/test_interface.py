"""The names and arguments of the interface, and where they are defined."""

import ast
import importlib
import inspect
import unittest
from pathlib import Path

import similarforms

FOLDER = Path(similarforms.__file__).resolve().parent
NUMBER = {"__add__": None, "__sub__": None, "__mul__": None, "__neg__": None, "__eq__": None, "__str__": None,
          "is_zero": (), "inverse": (), "over": ("b",), "power": ("k",)}
CLASSES = {
    ("errors", "Fault"): (None, {}),
    ("errors", "ZeroDivisor"): (None, {}),
    ("errors", "Malformed"): (None, {}),
    ("errors", "Refused"): (("reason",), {}),
    ("errors", "NoText"): (("at",), {}),
    ("ratio", "Ratio"): (("n", "d=1"), NUMBER),
    ("residue", "Residue"): (("p", "n"), NUMBER),
    ("ground", "Ground"): (("p=0",), {"__eq__": None, "number": ("n", "d=1"), "zero": (), "one": (),
                                      "is_member": ("value",), "members": (), "read": ("text",)}),
    ("poly", "Poly"): (("ground", "row"), {
        "__add__": None, "__sub__": None, "__mul__": None, "__neg__": None, "__floordiv__": None, "__mod__": None,
        "__eq__": None, "__call__": ("x",), "__str__": None, "degree": (), "is_zero": (), "coefficient": ("k",),
        "scaled": ("c",), "monic": (), "derivative": (), "power": ("k",)}),
    ("matrix", "Matrix"): (("ground", "rows", "width=None"), {
        "__add__": None, "__sub__": None, "__mul__": None, "__neg__": None, "__eq__": None, "__len__": None,
        "scaled": ("c",), "before": ("row",), "transposed": (), "is_square": (), "is_zero": (), "power": ("k",),
        "trace": (), "determinant": (), "at": ("f",), "inverse": ()}),
    ("plant", "Plant"): (("a", "b", "c"), {
        "__eq__": None, "size": (), "after": ("x", "u"), "markov": ("k",), "outputs": ("inputs",), "changed": ("p",),
        "fed": ("k",)}),
    ("replies", "Reply"): (("kind", "text=''", "data=()"), {"__eq__": None}),
    ("console", "Console"): (("most=300",), {"enter": ("line",), "__len__": None, "__iter__": None, "names": (),
                                             "log": ()}),
}
FUNCTIONS = {
    ("ratio", "is_integer"): ("value",), ("ground", "taken"): ("ground", "item"),
    ("divisor", "common_divisor"): ("f", "g"), ("divisor", "common_multiple"): ("f", "g"),
    ("divisor", "are_coprime"): ("f", "g"), ("divisor", "cofactors"): ("f", "g"),
    ("divisor", "squarefree_part"): ("f",), ("divisor", "multiplicity"): ("f", "g"),
    ("matrix", "unit"): ("ground", "n"), ("matrix", "nothing"): ("ground", "height", "width"),
    ("matrix", "companion"): ("f",), ("matrix", "diagonal"): ("ground", "parts"),
    ("linear", "reduced"): ("m",), ("linear", "rank"): ("m",), ("linear", "kernel"): ("m",),
    ("linear", "solve"): ("m", "w"), ("linear", "span_holds"): ("m", "w"), ("linear", "same_span"): ("a", "b"),
    ("minimal", "annihilator"): ("a", "v"), ("minimal", "minimal_polynomial"): ("a",),
    ("minimal", "maximal_vector"): ("a",), ("minimal", "joined_row"): ("a", "one", "two"),
    ("minimal", "krylov"): ("a", "v"), ("minimal", "is_invariant"): ("a", "space"),
    ("minimal", "krylov_space"): ("a", "space"),
    ("cyclic", "characteristic_polynomial"): ("a",), ("cyclic", "split_off"): ("a",),
    ("cyclic", "restricted"): ("a", "space"), ("cyclic", "cyclic_parts"): ("a",),
    ("form", "invariant_factors"): ("a",), ("form", "frobenius_form"): ("a",), ("form", "frobenius_change"): ("a",),
    ("similar", "are_similar"): ("a", "b"), ("similar", "find_change"): ("a", "b"),
    ("similar", "unlike_polynomial"): ("a", "b"), ("similar", "rank_at"): ("a", "g"),
    ("commuting", "intertwiners"): ("a", "b"), ("commuting", "commutant"): ("a",),
    ("commuting", "intertwiner_dimension"): ("a", "b"), ("commuting", "commutant_dimension"): ("a",),
    ("commuting", "commute"): ("a", "b"), ("commuting", "polynomial_of"): ("a", "x"),
    ("commuting", "is_cyclic"): ("a",),
    ("parts", "kernel_part"): ("a", "f"), ("parts", "projections"): ("a", "factors"), ("parts", "fitting"): ("a",),
    ("parts", "is_nilpotent"): ("a",), ("parts", "eigenvalues"): ("a",), ("parts", "jordan_sizes"): ("a", "c"),
    ("summands", "is_semisimple"): ("a",), ("summands", "summands"): ("a",),
    ("summands", "summand_polynomial"): ("a",),
    ("reach", "reachable_space"): ("plant",), ("reach", "unobservable_space"): ("plant",),
    ("reach", "is_reachable"): ("plant",), ("reach", "is_observable"): ("plant",), ("reach", "four_sizes"): ("plant",),
    ("realize", "least_recurrence"): ("plant",), ("realize", "minimal_realization"): ("plant",),
    ("realize", "same_outputs"): ("one", "two"), ("realize", "state_change"): ("one", "two"),
    ("feedback", "fixed_polynomial"): ("plant",), ("feedback", "feedback"): ("plant", "f"),
    ("papers", "rank_paper"): ("m",), ("papers", "minimal_paper"): ("a",), ("papers", "pair_paper"): ("a", "b"),
    ("papers", "form_paper"): ("a",),
    ("checker", "takes_rank"): ("m", "paper"), ("checker", "takes_minimal"): ("a", "paper"),
    ("checker", "takes_pair"): ("a", "b", "paper"), ("checker", "takes_form"): ("a", "paper"),
    ("sheet", "matrix_text"): ("m",), ("sheet", "read_matrix"): ("text",), ("sheet", "read_line"): ("line",),
    ("replies", "reply_to"): ("names", "line"), ("replies", "defined"): ("names", "line"),
    ("replies", "is_right"): ("names", "entry"),
    ("log", "write_data"): ("data",), ("log", "read_data"): ("text",), ("log", "write_log"): ("entries",),
    ("log", "read_log"): ("text",), ("log", "first_wrong"): ("entries",),
}


def told(function):
    return tuple(str(value) for name, value in inspect.signature(function).parameters.items() if name != "self")


def defined_in(module, kind):
    tree = ast.parse((FOLDER / f"{module}.py").read_text(encoding="ascii"))
    return [node.name for node in tree.body if isinstance(node, kind)]


class InterfaceTest(unittest.TestCase):
    def test_the_package_defines_nothing(self):
        self.assertEqual(len(ast.parse((FOLDER / "__init__.py").read_text(encoding="ascii")).body), 1)

    def test_functions(self):
        for (module, name), parameters in FUNCTIONS.items():
            with self.subTest(name=name):
                self.assertIn(name, defined_in(module, ast.FunctionDef))
                self.assertEqual(told(getattr(importlib.import_module(f"similarforms.{module}"), name)), parameters)

    def test_classes(self):
        for (module, name), (parameters, methods) in CLASSES.items():
            with self.subTest(name=name):
                self.assertIn(name, defined_in(module, ast.ClassDef))
                kind = getattr(importlib.import_module(f"similarforms.{module}"), name)
                if parameters is not None:
                    self.assertEqual(told(kind.__init__), parameters)
                for method, own in methods.items():
                    self.assertIn(method, vars(kind))
                    if own is not None:
                        self.assertEqual(told(vars(kind)[method]), own)
