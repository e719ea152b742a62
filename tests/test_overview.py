"""Points 0.1 to 0.4: nothing changes, equal arguments give equal results, and the main facts."""

import copy
import unittest
from itertools import product

from similarforms.checker import takes_form, takes_minimal, takes_pair, takes_rank
from similarforms.commuting import (commutant, commutant_dimension, commute, intertwiner_dimension, intertwiners,
                                    is_cyclic, polynomial_of)
from similarforms.cyclic import characteristic_polynomial, cyclic_parts, restricted, split_off
from similarforms.divisor import are_coprime, cofactors, common_divisor, common_multiple, multiplicity, squarefree_part
from similarforms.errors import Fault
from similarforms.feedback import feedback, fixed_polynomial
from similarforms.form import frobenius_change, frobenius_form, invariant_factors
from similarforms.ground import Ground, taken
from similarforms.linear import kernel, rank, reduced, same_span, solve, span_holds
from similarforms.log import first_wrong, read_data, read_log, write_data, write_log
from similarforms.matrix import Matrix, companion, diagonal, nothing, unit
from similarforms.minimal import (annihilator, is_invariant, joined_row, krylov, krylov_space, maximal_vector,
                                  minimal_polynomial)
from similarforms.papers import form_paper, minimal_paper, pair_paper, rank_paper
from similarforms.parts import eigenvalues, fitting, is_nilpotent, jordan_sizes, kernel_part, projections
from similarforms.plant import Plant
from similarforms.poly import Poly
from similarforms.ratio import Ratio, is_integer
from similarforms.reach import four_sizes, is_observable, is_reachable, reachable_space, unobservable_space
from similarforms.realize import least_recurrence, minimal_realization, same_outputs, state_change
from similarforms.replies import Reply, defined, is_right, reply_to
from similarforms.residue import Residue
from similarforms.sheet import matrix_text, read_line, read_matrix
from similarforms.similar import are_similar, find_change, rank_at, unlike_polynomial
from similarforms.summands import is_semisimple, summand_polynomial, summands
from tests.test_form import all_squares
from tests.values import GROUNDS, every_value, same_object_state

OPERATORS = {
    "+": lambda a, b: a + b, "-": lambda a, b: a - b, "*": lambda a, b: a * b, "//": lambda a, b: a // b,
    "%": lambda a, b: a % b, "==": lambda a, b: a == b, "!=": lambda a, b: a != b, "negative": lambda a, b: -a,
    "str": lambda a, b: str(a), "len": lambda a, b: len(a),
}
PAIRED = (common_divisor, common_multiple, are_coprime, cofactors, multiplicity)
OF_ONE_MATRIX = (minimal_polynomial, maximal_vector, characteristic_polynomial, split_off, cyclic_parts,
                 invariant_factors, frobenius_form, frobenius_change, commutant, commutant_dimension, is_cyclic,
                 fitting, is_nilpotent, eigenvalues, is_semisimple, summands, summand_polynomial, rank_paper,
                 minimal_paper, form_paper)
OF_TWO_MATRICES = (is_invariant, krylov_space, restricted, are_similar, find_change, unlike_polynomial, intertwiners,
                   intertwiner_dimension, commute, polynomial_of, pair_paper)
OF_ONE_PLANT = (reachable_space, unobservable_space, is_reachable, is_observable, four_sizes, least_recurrence,
                minimal_realization, fixed_polynomial)
OF_TWO_PLANTS = (same_outputs, state_change)


def calls():
    """Return calls of everything in the package, as pairs of a function and its arguments."""
    found = []
    for ground in GROUNDS:
        numbers = [ground.number(n) for n in (0, 1, 3, -1)]
        polys = [Poly(ground, row) for row in ((), (1,), (1, 1), (2, 0, 3), (0, 0, 0, 1))]
        matrices = [Matrix(ground, ()), Matrix(ground, ((1, 2), (3, 4))), Matrix(ground, [[1, 1]] * 2),
                    nothing(ground, 2, 3), Matrix(ground, (), 2)]
        found += calls_of_grounds(ground, numbers, matrices)
        for own in (numbers, polys, matrices):
            found += calls_of_methods(own, [2, -2, numbers[1], polys[2], numbers[:2], numbers[:3]])
        found += [(f, (x,)) for f in polys for x in numbers]
        for f in polys:
            found += [(squarefree_part, (f,)), (companion, (f,))]
            found += [(each, (f, g)) for each in PAIRED for g in polys]
        for m in matrices:
            found += [(each, (m,)) for each in (reduced, rank, kernel)]
            found += [(each, (m, w)) for each in (solve, span_holds) for w in (numbers[:2], numbers[:3], [])]
            found += [(same_span, (m, other)) for other in matrices]
        found += calls_of_squares(ground, numbers, polys, matrices)
        found += calls_of_sheets(ground, matrices)
    return found


def calls_of_sheets(ground, matrices):
    """Return calls of everything in the checker and the console's chapter, but for the console itself."""
    squares = [m for m in matrices if m.is_square()]
    papers = [paper(a) for a in squares for paper in (rank_paper, minimal_paper, form_paper)]
    papers += [pair_paper(a, b) for a in squares for b in squares]
    found = [(takes, (a, paper)) for takes in (takes_rank, takes_minimal, takes_form) for a in squares
             for paper in papers]
    found += [(takes_pair, (a, b, paper)) for a in squares for b in squares for paper in papers]
    found += [(matrix_text, (m,)) for m in matrices] + [(write_data, (paper,)) for paper in papers + [[], "a", 1]]
    names = dict(zip("abc", squares))
    lines = ["let d = q: 1/2", "rank a", "minimal b", "factors b", "similar b c", "sum d a b", "show c", "rank x", "", 5]
    entries = [(line, reply_to(names, line)) for line in lines]
    found += [(each, (names, line)) for each in (reply_to, defined) for line in lines]
    found += [(is_right, (names, (line, reply))) for line in lines for _, reply in entries]
    found += [(each, (some,)) for each in (first_wrong, write_log) for some in (entries, entries[:-1], entries[:1], [])]
    found += [(each, (text,)) for each in (read_line, read_matrix, read_data, read_log)
              for text in lines + ["q: 1/2", "(1 a 2m5)", "> a\n= b c\n# ()\n", f"{ground.p}: 1"]]
    return found


def calls_of_squares(ground, numbers, polys, matrices):
    """Return calls of everything in the chapters from 4 on."""
    squares = matrices + [diagonal(ground, [companion(f.monic()) for f in (polys[2] * polys[3], polys[2])])]
    rows = [numbers[:2], tuple(numbers[1:3]), numbers, []]
    found = [(each, (a,)) for each in OF_ONE_MATRIX for a in squares]
    found += [(each, (a, b)) for each in OF_TWO_MATRICES for a in squares for b in squares]
    found += [(each, (a, v)) for each in (annihilator, krylov) for a in squares for v in rows]
    found += [(joined_row, (a, v, w)) for a in squares for v in rows for w in rows]
    found += [(each, (a, f)) for each in (rank_at, kernel_part) for a in squares for f in polys]
    found += [(jordan_sizes, (a, c)) for a in squares for c in numbers + [1]]
    found += [(projections, (a, factors)) for a in squares for factors in (polys, polys[2:3], (polys[2], polys[3]), [])]
    return found + calls_of_plants(squares, numbers, polys)


def calls_of_plants(squares, numbers, polys):
    found = [(Plant, (a, row, list(row))) for a in squares for row in (numbers[:2], [1, 2], (), [0, 1, 0])]
    plants = [Plant(a, [1] * len(a), numbers[:len(a)]) for a in squares if a.is_square() and len(a) < 4]
    found += [(each, (plant,)) for each in OF_ONE_PLANT for plant in plants]
    found += [(each, (one, two)) for each in OF_TWO_PLANTS for one in plants for two in plants]
    found += [(feedback, (plant, f)) for plant in plants for f in polys + [f.monic() for f in polys]]
    return found + calls_of_methods(plants, [2, numbers[1], numbers[:2], [1, 0], squares[1], squares[2]])


def calls_of_grounds(ground, numbers, matrices):
    rows = [list(numbers), [1, 0, -2, 0, 0], (1, 2), [[1, 2], [3, 4]], [[1], [2, 3]], [numbers, numbers], []]
    found = [(kind, (ground, row)) for row in rows for kind in (Poly, Matrix)]
    found += [(diagonal, (ground, matrices[:2])), (diagonal, (ground, [])), (unit, (ground, 3))]
    found += [(taken, (ground, x)) for x in numbers + [5, None]]
    found += [(ground.read, (text,)) for text in ("1", "-1/2", "x")]
    return found + [(ground.members, ()), (ground.number, (3, 4)), (ground.is_member, (numbers,))]


def calls_of_methods(own, arguments):
    """Return calls of all operators and methods of objects of one class, with arguments of many kinds."""
    found = [(operator, (a, b)) for name, operator in OPERATORS.items() for a in own for b in own
             if name != "str" or not isinstance(a, (Matrix, Plant))]
    names = [name for name in vars(type(own[0])) if not name.startswith("_")]
    found += [(getattr(type(a), name), (a,)) for a in own for name in names]
    return found + [(getattr(type(a), name), (a, b)) for a in own for name in names for b in arguments]


def outcome(function, arguments):
    try:
        return same_object_state(function(*arguments))
    except (Fault, TypeError, AttributeError) as error:
        return (type(error).__name__, sorted(vars(error).items()))


class OverviewTest(unittest.TestCase):
    def test_no_function_changes_its_arguments_and_equal_arguments_give_equal_results(self):
        for function, arguments in calls():
            before = same_object_state(arguments)
            twin = copy.deepcopy(arguments)
            first = outcome(function, arguments)
            self.assertEqual(same_object_state(arguments), before, function)
            self.assertEqual(outcome(function, arguments), first, function)
            self.assertEqual(outcome(function, twin), first, function)

    def test_objects_do_not_follow_the_lists_that_they_were_made_of(self):
        for ground in GROUNDS:
            row = [1, 1, 1]
            rows = [row, [0, 1, 0]]
            f, m = Poly(ground, row), Matrix(ground, rows)
            row[0] = 0
            row.append(1)
            rows.pop()
            self.assertEqual(f, Poly(ground, (1, 1, 1)))
            self.assertEqual(m, Matrix(ground, ((1, 1, 1), (0, 1, 0))))

    def test_plants_do_not_follow_the_lists_that_they_were_made_of(self):
        for ground in GROUNDS:
            row, column = [1, 0], [0, 1]
            plant = Plant(unit(ground, 2), row, column)
            row[0], column[0] = 0, 1
            row.append(1)
            self.assertEqual(plant, Plant(unit(ground, 2), (1, 0), (0, 1)))

    def test_fields_hold_nothing_that_can_change(self):
        for value in every_value():
            if isinstance(value, (Ratio, Residue, Ground, Poly, Matrix, Plant, Reply)):
                for field in vars(value).values():
                    self.assertIsInstance(field, (int, str, tuple, Ground, Matrix))
                    if isinstance(field, tuple) and not isinstance(value, Reply):
                        items = [item for row in field for item in (row if isinstance(row, tuple) else (row,))]
                        self.assertTrue(all(isinstance(item, (Ratio, Residue)) for item in items))

    def test_answers_are_true_or_false_themselves(self):
        for ground in GROUNDS:
            f, m = Poly(ground, (1, 1)), unit(ground, 2)
            for answer in (f.is_zero(), are_coprime(f, f), m.is_zero(), m.is_square(), ground.is_member(f), f == m,
                           m == f, ground == f, ground.one() == f, same_span(m, m), span_holds(m, m.rows[0]),
                           is_integer(f), ground.one().is_zero(), is_invariant(m, m), are_similar(m, m),
                           are_similar(m, unit(ground, 3)), commute(m, m), is_cyclic(m), is_nilpotent(m),
                           is_semisimple(m), Plant(m, (1, 1), (1, 1)) == m, is_reachable(Plant(m, (1, 1), (1, 1))),
                           is_observable(Plant(m, (1, 1), (1, 1))),
                           same_outputs(Plant(m, (1, 1), (1, 1)), Plant(m, (1, 0), (1, 1))),
                           takes_rank(m, rank_paper(m)), takes_rank(m, None), takes_minimal(m, minimal_paper(m)),
                           takes_minimal(m, None), takes_form(m, form_paper(m)), takes_form(m, None),
                           takes_pair(m, m, pair_paper(m, m)), takes_pair(m, m, None), Reply("a") == Reply("a"),
                           is_right({}, ("", Reply("done"))), is_right({}, ())):
                self.assertIsInstance(answer, bool)


class FactsTest(unittest.TestCase):
    def test_each_pair_has_a_paper_of_one_kind(self):
        ground = Ground(2)
        matrices = all_squares(2, 2)
        changes = [(m, m.inverse()) for m in matrices if not m.determinant().is_zero()]
        polys = [Poly(ground, row) for row in product((0, 1), repeat=4)]
        for a in matrices:
            for b in matrices:
                self.assertIs(takes_pair(a, b, pair_paper(a, b)), True)
                similar = [p for p, q in changes if takes_pair(a, b, ("similar", p.rows, q.rows))]
                unlike = [g for g in polys if takes_pair(a, b, ("unlike", g.row, rank_paper(a.at(g)),
                                                                rank_paper(b.at(g))))]
                self.assertEqual((similar == [], unlike == []), (not are_similar(a, b), are_similar(a, b)))
                self.assertIs(frobenius_form(a) == frobenius_form(b), are_similar(a, b))

    def test_what_commutes(self):
        for p, n in ((2, 2), (3, 2)):
            matrices = all_squares(p, n)
            for a in matrices[::5]:
                found = [x for x in matrices if commute(a, x)]
                self.assertEqual(len(found), p ** commutant_dimension(a))
                values = [x for x in found if all(commute(x, y) for y in found)]
                self.assertEqual(values, [x for x in matrices if polynomial_of(a, x) is not None])
