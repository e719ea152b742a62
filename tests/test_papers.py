"""Points 9.1 to 9.5, as far as the papers go that the program makes, and point 2 of 0.4."""

import random
import unittest

from similarforms.errors import Malformed
from similarforms.form import invariant_factors
from similarforms.linear import rank
from similarforms.matrix import Matrix, nothing, unit
from similarforms.minimal import minimal_polynomial
from similarforms.papers import form_paper, minimal_paper, pair_paper, rank_paper
from similarforms.ratio import Ratio
from similarforms.residue import Residue
from tests.samples import (bases, chained, chains, in_another_basis, not_square, of_chain, some_ranks, squares,
                           unlike_grounds)
from tests.shown import shown, shows_form, shows_minimal, shows_pair, shows_rank_of
from tests.values import GROUNDS


class Base(unittest.TestCase):
    def setUp(self):
        self.source = random.Random(90)

    def assertPlain(self, ground, paper):
        """Check that a paper consists of tuples, words, integers where they belong, and numbers of the ground."""
        self.assertIs(type(paper), tuple)
        for item in paper:
            if isinstance(item, tuple):
                self.assertPlain(ground, item)
            elif not isinstance(item, str):
                self.assertIn(type(item), (int, Residue if ground.p else Ratio))


class RankPaperTest(Base):
    def test_papers(self):
        for ground in GROUNDS:
            for m in some_ranks(ground, self.source) + squares(ground, self.source):
                paper = rank_paper(m)
                self.assertPlain(ground, paper)
                self.assertIs(shown(shows_rank_of, m, paper), True)
                self.assertEqual(paper[:2], ("rank", rank(m)))

    def test_no_rows_and_no_columns(self):
        for ground in GROUNDS:
            for width in (0, 1, 9, 64):
                self.assertEqual(rank_paper(Matrix(ground, (), width)), ("rank", 0, (), ((),) * width, (), ()))
            for height in range(9):
                paper = rank_paper(nothing(ground, height, 0))
                self.assertEqual(paper, ("rank", 0, (), (), ((),) * height, ()))


class MinimalPaperTest(Base):
    def test_papers(self):
        for ground in GROUNDS:
            for a in squares(ground, self.source):
                paper = minimal_paper(a)
                self.assertPlain(ground, paper)
                self.assertIs(shown(shows_minimal, a, paper), True)
                self.assertEqual(paper[1], minimal_polynomial(a).row)
            self.assertEqual(minimal_paper(Matrix(ground, ())), ("minimal", (ground.one(),), (), ()))

    def test_malformed(self):
        for ground in GROUNDS:
            for a in not_square(ground):
                with self.assertRaises(Malformed):
                    minimal_paper(a)


class FormPaperTest(Base):
    def test_papers(self):
        for ground in GROUNDS:
            for a in squares(ground, self.source):
                paper = form_paper(a)
                self.assertPlain(ground, paper)
                self.assertIs(shown(shows_form, a, paper), True)
                self.assertEqual(paper[1], tuple(f.row for f in invariant_factors(a)))
            for chain, a in chained(ground, self.source):
                self.assertEqual(form_paper(a)[1], tuple(f.row for f in chain))
            self.assertEqual(form_paper(Matrix(ground, ())), ("form", (), (), ()))

    def test_malformed(self):
        for ground in GROUNDS:
            for a in not_square(ground):
                with self.assertRaises(Malformed):
                    form_paper(a)


class PairPaperTest(Base):
    def assertShows(self, a, b, word):
        paper = pair_paper(a, b)
        self.assertPlain(a.ground, paper)
        self.assertEqual(paper[0], word)
        self.assertIs(shown(shows_pair, a, b, paper), True)

    def test_similar(self):
        for ground in GROUNDS:
            for a in squares(ground, self.source):
                self.assertShows(a, in_another_basis(a, self.source), "similar")
            self.assertEqual(pair_paper(Matrix(ground, ()), Matrix(ground, ())), ("similar", (), ()))

    def test_not_similar(self):
        for ground in GROUNDS:
            found = chains(ground)
            for k, one in enumerate(found):
                for other in found[:k]:
                    a = in_another_basis(of_chain(ground, one), self.source)
                    b = in_another_basis(of_chain(ground, other), self.source)
                    self.assertShows(a, b, "unlike" if len(a) == len(b) else "sizes")
            x, y, _ = bases(ground)
            # The first one has the minimal polynomial of the other one, but not the other factors.
            self.assertShows(of_chain(ground, (x * x, x * x)), of_chain(ground, (x * x, x, x)), "unlike")
            self.assertShows(of_chain(ground, (x * y, x)), of_chain(ground, (x * y, y)), "unlike")

    def test_unlike_sizes(self):
        for ground in GROUNDS:
            for m in range(9):
                for n in range(9):
                    if m != n:
                        self.assertEqual(pair_paper(unit(ground, m), unit(ground, n)), ("sizes",))

    def test_malformed(self):
        for ground in GROUNDS:
            for a in not_square(ground):
                for b in (a, unit(ground, len(a)), unit(ground, min(a.width, 8)), Matrix(ground, ())):
                    for pair in ((a, b), (b, a)):
                        with self.assertRaises(Malformed):
                            pair_paper(*pair)
        for one, two in unlike_grounds():
            for m in (0, 1, 3):
                for n in (0, 1, 3):
                    with self.assertRaises(Malformed):
                        pair_paper(unit(one, m), unit(two, n))


class ShownTest(Base):
    def test_what_the_tests_take_for_a_paper(self):
        for ground in GROUNDS:
            one, zero = (ground.one(),), (ground.zero(),)
            m = Matrix(ground, ((0, 1),))
            paper = ("rank", 1, (one,), (zero, one), (one,), (zero + one,))
            self.assertIs(shown(shows_rank_of, m, paper), True)
            self.assertIs(shown(shows_rank_of, m + m + m + m + m + m + m, paper), ground.p in (2, 3))
            for wrong in (("rank", True, *paper[2:]), paper[:5], (*paper, ()), ("rank", 1, ((1,),), *paper[3:]),
                          ("rank", 0, (), ((), ()), ((),), ()), ("rang", *paper[1:]), list(paper), None):
                self.assertIs(shown(shows_rank_of, m, wrong), False)
            a = Matrix(ground, ((1, 0), (0, 0)))
            minimal = zero + (-ground.one(),) + one
            self.assertIs(shown(shows_minimal, a, ("minimal", minimal, one + one, (zero + one, one + (-one[0],)))), True)
            self.assertIs(shown(shows_minimal, a, ("minimal", minimal, one + zero, (zero + one, one + zero))), False)
