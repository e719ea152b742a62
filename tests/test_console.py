"""Point 10.5."""

import inspect
import random
import unittest

from similarforms.console import Console
from similarforms.errors import Refused
from similarforms.ground import Ground
from similarforms.log import first_wrong, read_log, write_log
from similarforms.matrix import Matrix, unit
from similarforms.replies import Reply, reply_to
from similarforms.sheet import matrix_text
from tests.samples import squares
from tests.values import GROUNDS

LINES = ["let a = q: 0 1; -1 0", "minimal a", "show b", "let b = q: 1 0; 0 1", "similar a b", "", "# a", "wrong line",
         "inverse a a", "show a", "let a = q: 1 2", "show a", "let a = 5: 3", "show a", "sum c a b", "show c", " x",
         "sum c b b", "form a b", "similar a b", "let a = q: " + "9" * 21, "rank a", "factors c", "trace c"]


class ConsoleTest(unittest.TestCase):
    def setUp(self):
        self.source = random.Random(105)

    def test_entries(self):
        console = Console()
        names = {}
        for k, line in enumerate(LINES):
            told = reply_to(names, line)
            reply = console.enter(line)
            self.assertIs(type(reply), Reply)
            self.assertEqual(reply, told)
            self.assertEqual(len(console), k + 1)
            self.assertEqual(list(console)[-1], (line, reply))
            names = console.names()
        self.assertEqual([line for line, _ in console], LINES)
        self.assertTrue(all(type(entry) is tuple for entry in console))
        self.assertEqual([reply.kind for _, reply in console].count("error"), 7)
        self.assertEqual(first_wrong(list(console)), -1)

    def test_definitions(self):
        console = Console()
        self.assertEqual(console.names(), {})
        console.enter("let a = 5: 1 2; 3 4")
        console.enter("transposed b a")
        a = Matrix(Ground(5), ((1, 2), (3, 4)))
        self.assertEqual(console.names(), {"a": a, "b": a.transposed()})
        for line in ("let a = 5: 1 2", "inverse a none", "sum a a none", "rank a", "similar a b", "", "#", "show none"):
            console.enter(line)
            self.assertEqual(console.names(), {"a": a, "b": a.transposed()})
        console.enter("let c = 3: 1")
        self.assertEqual(console.enter("product a a c"), Reply("error", "malformed"))
        self.assertEqual(console.names()["a"], a)
        console.enter("product a a b")
        self.assertEqual(console.names()["a"], a * a.transposed())
        console.enter("let a = q:")
        self.assertEqual(console.names(), {"a": Matrix(Ground(), ()), "b": a.transposed(), "c": unit(Ground(3), 1)})

    def test_lines_of_all_kinds_that_define(self):
        for ground in GROUNDS:
            for m in squares(ground, self.source)[::9]:
                console = Console()
                for line in (f"let a = {matrix_text(m)}", "sum b a a", "product c a a", "power d a 2", "transposed e a",
                             "form f a", "semisimple g a", "nilpotent h a", "inverse i a"):
                    reply = console.enter(line)
                    if reply.kind != "error":
                        self.assertEqual(matrix_text(console.names()[line.split()[1]]), reply.text)
                self.assertEqual(console.names()["a"], m)
                self.assertEqual(console.names()["c"], console.names()["d"])
                self.assertEqual("i" in console.names(), not m.determinant().is_zero())

    def test_most(self):
        for most in (0, 1, 2, 5):
            console = Console(most=most)
            for k in range(most):
                console.enter("let a = 2: 1" if k % 2 == 0 else "wrong")
            before, names = list(console), console.names()
            for line in ("let b = 2: 0", "", "wrong", "let a = 2:"):
                with self.assertRaises(Refused) as caught:
                    console.enter(line)
                self.assertEqual(caught.exception.reason, "lines")
                self.assertEqual((list(console), console.names(), len(console)), (before, names, most))
        console = Console()
        for _ in range(300):
            console.enter("")
        with self.assertRaises(Refused):
            console.enter("")
        self.assertEqual(len(console), 300)

    def test_most_is_told_by_its_name(self):
        parameters = inspect.signature(Console).parameters
        self.assertEqual([(p.name, p.kind, p.default) for p in parameters.values()],
                         [("most", inspect.Parameter.KEYWORD_ONLY, 300)])

    def test_names_are_a_new_dict(self):
        console = Console()
        console.enter("let a = 2: 1")
        names = console.names()
        names["b"] = names.pop("a")
        self.assertEqual(console.names(), {"a": unit(Ground(2), 1)})
        self.assertIsNot(console.names(), console.names())
        console.enter("let c = 2: 1")
        self.assertEqual(list(names), ["b"])
        entries = list(console)
        entries.pop()
        self.assertEqual(len(console), 2)

    def test_log(self):
        console = Console()
        self.assertEqual(console.log(), "")
        for k, line in enumerate(LINES):
            console.enter(line)
            self.assertEqual(console.log(), write_log(list(console)))
            self.assertEqual(console.log().count("\n"), 3 * (k + 1))
        self.assertEqual(read_log(console.log()), list(console))
        self.assertEqual(console.log().split("\n")[:3], ["> let a = q: 0 1; -1 0", "= matrix q: 0 1; -1 0", "# ()"])

    def test_two_consoles(self):
        one, other = Console(), Console()
        one.enter("let a = 2: 1")
        self.assertEqual((len(other), other.names(), list(other)), (0, {}, []))
        self.assertEqual(other.enter("show a"), Reply("error", "refused name"))

    def test_lines_that_are_none(self):
        console = Console()
        for line in ("\t", "\u00e9", "x" * 3000, "#" * 2001, "\r", "show a\t"):
            self.assertEqual(console.enter(line), Reply("error", "text"))
        self.assertEqual(len(console), 6)
        self.assertEqual(read_log(console.log()), list(console))
