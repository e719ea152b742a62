"""Points 9.1 to 9.6, and point 2 of 0.4."""

import ast
import random
import unittest
from importlib import import_module
from pathlib import Path
from unittest.mock import patch

import similarforms
from similarforms.checker import takes_form, takes_minimal, takes_pair, takes_rank
from similarforms.commuting import commutant
from similarforms.form import invariant_factors
from similarforms.ground import Ground
from similarforms.matrix import Matrix, companion, nothing, unit
from similarforms.papers import form_paper, minimal_paper, pair_paper, rank_paper
from similarforms.poly import Poly
from similarforms.ratio import Ratio
from similarforms.residue import Residue
from similarforms.similar import rank_at
from tests.samples import (bases, chains, in_another_basis, of_chain, some_change, some_ranks, some_vectors, squares)
from tests.shown import shown, shows_form, shows_minimal, shows_pair, shows_rank_of
from tests.values import GROUNDS, every_value, some_matrix

LATER = ("linear", "minimal", "cyclic", "form", "similar", "commuting", "parts", "summands", "plant", "reach",
         "realize", "feedback", "papers")
OF_SQUARES = ((takes_minimal, shows_minimal, minimal_paper), (takes_form, shows_form, form_paper))


def variants(ground, value):
    """Return a list of what a paper becomes with one place changed."""
    if isinstance(value, tuple):
        found = [value[:k] + (item,) + value[k + 1:] for k in range(len(value)) for item in variants(ground, value[k])]
        found += [value[:k] + value[k + 1:] for k in range(len(value))]
        found += [value[:k + 1] + value[k:] for k in range(len(value))]
        return found + [list(value), value[::-1], value + ((),), value + (ground.zero(),), (value,), (), None]
    if isinstance(value, str):
        return [word for word in ("rank", "minimal", "similar", "unlike", "sizes", "form", "", None) if word != value]
    if isinstance(value, int):
        return [value + 1, value - 1, -1, 0, True, False, None, ground.number(value), str(value)]
    other = Ground(3 if ground.p != 3 else 5)
    return [value + ground.one(), -value, value * value, ground.zero(), ground.one(), 0, 1, True, value.n,
            other.number(value.n), str(value), (value,), None]


class Base(unittest.TestCase):
    def setUp(self):
        self.source = random.Random(91)

    def some_variants(self, ground, paper, many):
        found = variants(ground, paper)
        return found if len(found) <= many else self.source.sample(found, many)

    def assertLike(self, takes, shows, arguments, papers):
        for paper in papers:
            self.assertIs(takes(*arguments, paper), shown(shows, *arguments, paper), paper)


class AcceptedTest(Base):
    def test_papers_of_squares(self):
        for ground in GROUNDS:
            for a in squares(ground, self.source):
                for takes, _, paper in OF_SQUARES + ((takes_rank, None, rank_paper),):
                    self.assertIs(takes(a, paper(a)), True)
                b = in_another_basis(a, self.source)
                self.assertIs(takes_pair(a, b, pair_paper(a, b)), True)

    def test_papers_of_ranks(self):
        for ground in GROUNDS:
            for m in some_ranks(ground, self.source):
                self.assertIs(takes_rank(m, rank_paper(m)), True)
            for height in range(9):
                for width in (0, 1, 9, 64):
                    m = nothing(ground, height, width)
                    self.assertIs(takes_rank(m, rank_paper(m)), True)

    def test_papers_of_pairs(self):
        for ground in GROUNDS:
            found = chains(ground)
            for k, one in enumerate(found):
                for other in found[:k:3]:
                    a, b = of_chain(ground, one), in_another_basis(of_chain(ground, other), self.source)
                    paper = pair_paper(a, b)
                    self.assertIs(takes_pair(a, b, paper), True)
                    # What shows the one is no paper that shows the other.
                    for wrong in (("sizes",), ("similar", b.rows, b.rows), pair_paper(a, a), pair_paper(b, b)):
                        if wrong != paper:
                            self.assertIs(takes_pair(a, b, wrong), False)

    def test_other_papers_of_ranks(self):
        for ground in GROUNDS:
            for m in some_ranks(ground, self.source):
                _, r, left, right, tall, wide = rank_paper(m)
                if r > 0:
                    t = some_change(ground, r, self.source)
                    back = t.inverse()
                    one = (t * Matrix(ground, left)).rows, tuple(back.before(row) for row in right)
                    two = (Matrix(ground, tall) * back).rows, (t * Matrix(ground, wide)).rows
                    self.assertIs(takes_rank(m, ("rank", r, *one, tall, wide)), True)
                    self.assertIs(takes_rank(m, ("rank", r, left, right, *two)), True)
                    mixed = ("rank", r, one[0], right, tall, wide)
                    self.assertIs(takes_rank(m, mixed), shown(shows_rank_of, m, mixed))

    def test_other_papers_of_squares(self):
        for ground in GROUNDS:
            for a in squares(ground, self.source):
                if 0 < len(a) < 5:
                    self.assertOthers(a)

    def assertOthers(self, a):
        ground, n = a.ground, len(a)
        _, f, _, _ = minimal_paper(a)
        if len(f) == n + 1:
            for v in some_vectors(ground, n, self.source):
                rows = [tuple(v)]
                for _ in range(n - 1):
                    rows.append(a.before(rows[-1]))
                krylov = Matrix(ground, rows)
                if krylov.determinant().is_zero():
                    self.assertIs(takes_minimal(a, ("minimal", f, tuple(v), unit(ground, n).rows)), False)
                else:
                    self.assertIs(takes_minimal(a, ("minimal", f, tuple(v), krylov.inverse().rows)), True)
        _, factors, p, q = form_paper(a)
        for x in commutant(a):
            if not x.determinant().is_zero():
                one, two = Matrix(ground, p) * x, x.inverse() * Matrix(ground, q)
                self.assertIs(takes_form(a, ("form", factors, one.rows, two.rows)), True)
                self.assertIs(takes_pair(a, a, ("similar", x.rows, x.inverse().rows)), True)

    def test_other_polynomials_for_unlike_matrices(self):
        for ground in GROUNDS:
            x, y, q = bases(ground)
            for one, other in (((x * x, x, x), (x * x, x * x)), ((q * x,), (q * y,)), ((x * y, x), (x * y, y))):
                a, b = of_chain(ground, one), in_another_basis(of_chain(ground, other), self.source)
                for g in (x, y, q, x * x, x * y, -x, -x * x * x, Poly(ground, ()), Poly(ground, (1,)), y.power(12)):
                    paper = ("unlike", g.row, rank_paper(a.at(g)), rank_paper(b.at(g)))
                    self.assertIs(takes_pair(a, b, paper), rank_at(a, g) != rank_at(b, g))
                    self.assertIs(takes_pair(a, b, paper[:2] + (paper[3], paper[2])), False)


class ChangedTest(Base):
    def small(self, ground):
        """Return square matrices of small sizes, and two of the size 8."""
        x, y, q = bases(ground)
        found = [a for a in squares(ground, self.source) if len(a) < 4][::4]
        found += [Matrix(ground, ()), Matrix(ground, ((1, 1), (0, 1))), unit(ground, 2), of_chain(ground, (x * y, x))]
        return found + [of_chain(ground, (q * x, x)), of_chain(ground, (y.power(8),))]

    def test_papers_of_squares(self):
        for ground in GROUNDS:
            for a in self.small(ground):
                for takes, shows, paper in OF_SQUARES:
                    self.assertLike(takes, shows, (a,), self.some_variants(ground, paper(a), 90))

    def test_papers_of_ranks(self):
        for ground in GROUNDS:
            for m in some_ranks(ground, self.source) + self.small(ground):
                self.assertLike(takes_rank, shows_rank_of, (m,), self.some_variants(ground, rank_paper(m), 60))

    def test_papers_of_pairs(self):
        for ground in GROUNDS:
            for a in self.small(ground):
                for b in (in_another_basis(a, self.source), some_matrix(ground, len(a), len(a), self.source),
                          unit(ground, 3)):
                    self.assertLike(takes_pair, shows_pair, (a, b), self.some_variants(ground, pair_paper(a, b), 30))

    def test_papers_of_other_matrices(self):
        for ground in GROUNDS:
            found = self.small(ground)
            for a in found:
                for takes, shows, paper in OF_SQUARES + ((takes_rank, shows_rank_of, rank_paper),):
                    self.assertLike(takes, shows, (a,), [paper(b) for b in found])
                for b in found[::2]:
                    self.assertLike(takes_pair, shows_pair, (a, b), [pair_paper(c, b) for c in found[::3]])

    def test_all_papers_of_one_row(self):
        for p in (2, 3):
            ground = Ground(p)
            numbers = ground.members()
            for m in [Matrix(ground, ((n,),)) for n in range(p)]:
                papers = [("rank", 1, ((a,),), ((b,),), ((c,),), ((d,),))
                          for a in numbers for b in numbers for c in numbers for d in numbers]
                papers += [("minimal", (a, b), (c,), ((d,),))
                           for a in numbers for b in numbers for c in numbers for d in numbers]
                papers += [("form", ((a, b),), ((c,),), ((d,),))
                           for a in numbers for b in numbers for c in numbers for d in numbers]
                self.assertLike(takes_rank, shows_rank_of, (m,), papers)
                for takes, shows, _ in OF_SQUARES:
                    self.assertLike(takes, shows, (m,), papers)


class WrongTest(Base):
    def test_ranks(self):
        for ground in GROUNDS:
            one, zero = ground.one(), ground.zero()
            m = unit(ground, 2)
            paper = rank_paper(m)
            self.assertIs(takes_rank(m, paper), True)
            for r in (-1, True, 0, 1, 3, 9, 10 ** 30, one, "2", None):
                self.assertIs(takes_rank(m, ("rank", r, *paper[2:])), False)
            single = Matrix(ground, ((1,),))
            self.assertIs(takes_rank(single, ("rank", 1, ((one,),), ((one,),), ((one,),), ((one,),))), True)
            self.assertIs(takes_rank(single, ("rank", True, ((one,),), ((one,),), ((one,),), ((one,),))), False)
            none = nothing(ground, 1, 1)
            self.assertIs(takes_rank(none, ("rank", 0, (), ((),), ((),), ())), True)
            self.assertIs(takes_rank(none, ("rank", False, (), ((),), ((),), ())), False)
            self.assertIs(takes_rank(none, ("rank", -1, (), ((),), ((),), ())), False)
            # Each half alone is not enough: the rank is at least 1, and at most 2.
            self.assertIs(takes_rank(m, ("rank", 1, ((one, zero),), ((one,), (zero,)), ((one,), (zero,)),
                                         ((one, zero),))), False)
            self.assertIs(takes_rank(none, ("rank", 1, ((one,),), ((one,),), ((zero,),), ((zero,),))), False)

    def test_more_rows_and_columns_than_a_matrix_has(self):
        for ground in GROUNDS:
            one = ground.one()
            for n in (9, 20, 65, 100):
                tables = tuple(tuple(ground.number(int(i == k)) for i in range(n)) for k in range(n))
                flat = ((one,) * n,)
                for m in (unit(ground, 8), some_matrix(ground, 8, 64, self.source), Matrix(ground, ())):
                    for r in (0, 1, 8, n):
                        self.assertIs(takes_rank(m, ("rank", r, tables, tables, tables, tables)), False)
                        self.assertIs(takes_rank(m, ("rank", r, flat, flat, flat, flat)), False)
                a = unit(ground, 8)
                polynomial = (ground.zero(),) * n + (one,)
                for paper in (("minimal", polynomial, flat[0], tables), ("form", (polynomial,), tables, tables),
                              ("form", ((-one, one),) * n, a.rows, a.rows), ("form", (), tables, tables),
                              ("minimal", (-one, one), flat[0], tables), ("form", (polynomial,), a.rows, a.rows)):
                    self.assertIs(takes_minimal(a, paper), False)
                    self.assertIs(takes_form(a, paper), False)
                # This polynomial has the value 0, and there is a table of the told height and width.
                power = Poly(ground, (-1, 1)).power(n).row
                self.assertIs(takes_minimal(a, ("minimal", power, (one,) * 8, ((one,) * n,) * 8)), False)
                self.assertIs(takes_pair(a, a, ("similar", tables, tables)), False)
                self.assertIs(takes_pair(a, a, ("unlike", polynomial, rank_paper(a), rank_paper(a))), False)
            for m in (some_matrix(ground, 8, 64, self.source), nothing(ground, 8, 64)):
                self.assertIs(takes_rank(m, rank_paper(m)), True)

    def test_polynomials(self):
        for ground in GROUNDS:
            one, zero = ground.one(), ground.zero()
            a = Matrix(ground, ((1,),))
            minimal = ("minimal", (-one, one), (one,), ((one,),))
            self.assertIs(takes_minimal(a, minimal), True)
            for row in ((-one, one, zero), (one, -one) if ground.p != 2 else (), (zero,), (one,), (), (-1, 1),
                        [-one, one], (-one, True), (one - one, one - one)):
                self.assertIs(takes_minimal(a, ("minimal", row, *minimal[2:])), False)
            form = ("form", ((-one, one),), ((one,),), ((one,),))
            self.assertIs(takes_form(a, form), True)
            for factors in (((-one, one, zero),), ((-one, one), (one,)), ((one,), (-one, one)), ((-one, one), ()), (),
                            [(-one, one)], ([-one, one],), (-one, one), ((-one, one), (-one, one))):
                self.assertIs(takes_form(a, ("form", factors, *form[2:])), False)

    def test_factors_that_do_not_divide_one_another(self):
        for ground in GROUNDS:
            x, y, q = bases(ground)
            for chain in ((x, y), (x, x * y), (x, x, x * x), (y * x, y, x), (q, x), (q, x * q), (x, y * y)):
                a = of_chain(ground, chain)
                rows = unit(ground, len(a)).rows
                self.assertIs(takes_form(a, ("form", tuple(f.row for f in chain), rows, rows)), False)
                told = ("form", tuple(f.row for f in invariant_factors(a)), rows, rows)
                self.assertIs(takes_form(a, told), a == of_chain(ground, invariant_factors(a)))
            a = companion(x * y)
            if ground.p != 2:
                doubled = (x * y + x * y).row
                self.assertIs(takes_form(a, ("form", (doubled,), *form_paper(a)[2:])), False)

    def test_pairs(self):
        for ground in GROUNDS:
            for m in range(4):
                for n in range(4):
                    a, b = unit(ground, m), unit(ground, n)
                    self.assertIs(takes_pair(a, b, ("sizes",)), m != n)
                    for paper in (("sizes", ()), ("sizes", None), ["sizes"], "sizes", ("size",), (), ("sizes",) * 2):
                        self.assertIs(takes_pair(a, b, paper), False)
                    self.assertIs(takes_pair(a, b, ("similar", a.rows, a.rows)), m == n)
                    self.assertIs(takes_pair(a, b, ("unlike", (), rank_paper(a - a), rank_paper(b - b))), False)
                    one = (ground.one(),)
                    self.assertIs(takes_pair(a, b, ("unlike", one, rank_paper(a), rank_paper(b))), False)
            a, b = unit(ground, 2), nothing(ground, 2, 2)
            paper = ("unlike", (ground.zero(), ground.one()), rank_paper(a), rank_paper(b))
            self.assertIs(takes_pair(a, b, paper), True)
            for g in ((ground.zero(), ground.one(), ground.zero()), (0, 1), [ground.zero(), ground.one()],
                      Poly(ground, (0, 1)), (ground.zero(),), (), None):
                self.assertIs(takes_pair(a, b, ("unlike", g, *paper[2:])), False)


class EveryValueTest(Base):
    def values(self, ground):
        """Return values of all kinds, and papers that hold them."""
        found = every_value() + ["rank", "minimal", "form", "similar", ("sizes", 1), ("rank",), ("minimal",),
                                 ("form",), ("similar",), ("unlike",), ("rank", "form"), [("sizes",)], ((((),),),)]
        deep = ()
        for _ in range(2000):
            deep = (deep,)
        found.append(deep)
        told = list(found)
        for value in found:
            told += [(value,), [value], ("rank", value, value, value, value, value), ("minimal", value, value, value),
                     ("rank", 0, value, value, value, value), ("form", value, value, value), ("similar", value, value),
                     ("form", (value,), value, value), ("unlike", value, value, value), ("unlike", (), value, value),
                     ("similar", (value,), (value,)), ("minimal", (ground.one(),), value, value),
                     (value, value, value), (value, value, value, value), (value,) * 6]
        return told

    def test_answers(self):
        for ground in GROUNDS:
            for paper in self.values(ground):
                for n in (0, 1, 2):
                    a = unit(ground, n)
                    for takes, shows, arguments in ((takes_rank, shows_rank_of, (a,)), (takes_pair, shows_pair, (a, a)),
                                                    (takes_minimal, shows_minimal, (a,)),
                                                    (takes_form, shows_form, (a,)),
                                                    (takes_pair, shows_pair, (a, unit(ground, 3)))):
                        self.assertIs(takes(*arguments, paper), shown(shows, *arguments, paper), paper)

    def test_other_grounds(self):
        for ground in GROUNDS:
            for other in GROUNDS:
                if other != ground:
                    a = Matrix(ground, ((1, 1), (0, 1)))
                    b = Matrix(other, ((1, 1), (0, 1)))
                    self.assertIs(takes_rank(a, rank_paper(b)), False)
                    self.assertIs(takes_minimal(a, minimal_paper(b)), False)
                    self.assertIs(takes_form(a, form_paper(b)), False)
                    self.assertIs(takes_pair(a, a, pair_paper(b, b)), False)
                    # The size 0 has no numbers that could be wrong, but for the polynomial.
                    none = Matrix(ground, ())
                    self.assertIs(takes_minimal(none, minimal_paper(Matrix(other, ()))), False)
                    self.assertIs(takes_form(none, form_paper(Matrix(other, ()))), True)


class OnItsOwnTest(Base):
    def test_nothing_of_the_later_chapters_is_imported(self):
        folder = Path(similarforms.__file__).resolve().parent
        tree = ast.parse((folder / "checker.py").read_text(encoding="ascii"))
        modules = {node.module for node in ast.walk(tree) if isinstance(node, ast.ImportFrom)}
        self.assertFalse(modules & {f"similarforms.{name}" for name in LATER + ("eliminate",)})

    def test_nothing_of_the_later_chapters_is_called(self):
        cases = []
        for ground in GROUNDS:
            for a in squares(ground, self.source)[::6]:
                b = in_another_basis(a, self.source)
                cases += [(takes_rank, (a, rank_paper(a))), (takes_minimal, (a, minimal_paper(a))),
                          (takes_form, (a, form_paper(a))), (takes_pair, (a, b, pair_paper(a, b))),
                          (takes_pair, (a, unit(ground, len(a)), pair_paper(a, unit(ground, len(a)))))]
        patches = []
        for module in (import_module(f"similarforms.{name}") for name in LATER + ("eliminate",)):
            own = [name for name, value in vars(module).items() if type(value) is type(variants)]
            patches += [patch.object(module, name, None) for name in own]
        patches += [patch.object(Matrix, name, None) for name in ("inverse", "determinant")]
        for each in patches:
            each.start()
        try:
            answers = [takes(*arguments) for takes, arguments in cases]
        finally:
            patch.stopall()
        self.assertEqual(answers, [True] * len(cases))


class NumbersTest(Base):
    def test_numbers_of_the_ground_alone(self):
        for ground in GROUNDS:
            a = unit(ground, 1)
            one = ground.one()
            for number in (1, True, "1", None, Ratio(1) if ground.p else Residue(2, 1), Residue(7, 1), (one,), [one]):
                for paper in (("rank", 1, ((number,),), ((one,),), ((one,),), ((one,),)),
                              ("rank", 1, ((one,),), ((number,),), ((one,),), ((one,),)),
                              ("rank", 1, ((one,),), ((one,),), ((number,),), ((one,),)),
                              ("rank", 1, ((one,),), ((one,),), ((one,),), ((number,),))):
                    self.assertIs(takes_rank(a, paper), False)
                for paper in (("minimal", (-one, number), (one,), ((one,),)),
                              ("minimal", (-one, one), (number,), ((one,),)),
                              ("minimal", (-one, one), (one,), ((number,),))):
                    self.assertIs(takes_minimal(a, paper), False)
                for paper in (("form", ((-one, number),), ((one,),), ((one,),)),
                              ("form", ((-one, one),), ((number,),), ((one,),)),
                              ("form", ((-one, one),), ((one,),), ((number,),))):
                    self.assertIs(takes_form(a, paper), False)
                self.assertIs(takes_pair(a, a, ("similar", ((number,),), ((one,),))), False)
                self.assertIs(takes_pair(a, a, ("similar", ((one,),), ((number,),))), False)
