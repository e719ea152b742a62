"""Points 10.3, 10.4 and 10.6."""

import copy
import random
import unittest
from unittest.mock import patch

from similarforms.checker import takes_form, takes_minimal, takes_pair, takes_rank
from similarforms.commuting import commutant, commutant_dimension
from similarforms.cyclic import characteristic_polynomial
from similarforms.errors import Fault, Malformed, Refused
from similarforms.form import frobenius_form, invariant_factors
from similarforms.ground import Ground
from similarforms.linear import rank
from similarforms.matrix import Matrix, nothing, unit
from similarforms.minimal import minimal_polynomial
from similarforms.papers import form_paper, minimal_paper, pair_paper, rank_paper
from similarforms.parts import eigenvalues
from similarforms.poly import Poly
from similarforms.ratio import Ratio
from similarforms.replies import Reply, defined, is_right, reply_to
from similarforms.sheet import matrix_text
from similarforms.similar import are_similar
from similarforms.summands import summands
from tests.samples import bases, in_another_basis, of_chain, squares
from tests.values import GROUNDS, every_value, same_object_state, some_matrix

# What a line that defines a matrix gives, by its first token.
MADE = {
    "sum": lambda a, b: a + b, "product": lambda a, b: a * b, "transposed": lambda a: a.transposed(),
    "inverse": lambda a: a.inverse(), "form": frobenius_form, "semisimple": lambda a: summands(a)[0],
    "nilpotent": lambda a: summands(a)[1],
}
SHOWN = {
    "show": lambda a: Reply("matrix", matrix_text(a)),
    "characteristic": lambda a: Reply("polynomial", str(characteristic_polynomial(a))),
    "determinant": lambda a: Reply("number", str(a.determinant())),
    "trace": lambda a: Reply("number", str(a.trace())),
    "commutant": lambda a: Reply("number", str(commutant_dimension(a))),
    "eigenvalues": lambda a: Reply("numbers", " ".join(str(c) for c in eigenvalues(a)), eigenvalues(a)),
}
PAPERED = {
    "rank": lambda a: ("number", str(rank(a)), takes_rank),
    "minimal": lambda a: ("polynomial", str(minimal_polynomial(a)), takes_minimal),
    "factors": lambda a: ("factors", "; ".join(str(f) for f in invariant_factors(a)), takes_form),
}
WORDS = {word: 3 for word in ("sum", "product")}
WORDS |= {word: 2 for word in ("transposed", "inverse", "form", "semisimple", "nilpotent", "similar")}
WORDS |= {word: 1 for word in (*SHOWN, *PAPERED)}


def error(text):
    return Reply("error", text)


def told(function, *arguments):
    """Return the result, or the reply to the error."""
    try:
        return function(*arguments)
    except Malformed:
        return error("malformed")
    except Refused as fault:
        return error(f"refused {fault.reason}")


class Base(unittest.TestCase):
    def setUp(self):
        self.source = random.Random(103)

    def assertReply(self, names, line, reply, definition=None):
        """Check the reply to a line, what it defines, and that its entry is right with this reply alone."""
        before = same_object_state(names)
        found = reply_to(names, line)
        self.assertIs(type(found), Reply)
        self.assertEqual((found.kind, found.text, found.data), (reply.kind, reply.text, reply.data), line)
        self.assertIs(type(found.data), tuple)
        self.assertEqual(defined(names, line), definition)
        self.assertIs(is_right(names, (line, found)), True)
        self.assertEqual(same_object_state(names), before)
        for wrong in (Reply(reply.kind + "x", reply.text, reply.data), Reply(reply.kind, reply.text + " ", reply.data),
                      Reply(reply.kind, reply.text, reply.data + (1,)), Reply(reply.kind, reply.text, None),
                      Reply(reply.kind, reply.text, list(reply.data)), Reply(None, None, None), Reply(reply)):
            self.assertIs(is_right(names, (line, wrong)), False)

    def named(self, ground):
        """Return a dict of names and small square matrices over the ground."""
        x, y, q = bases(ground)
        found = [Matrix(ground, ()), Matrix(ground, ((1, 2), (3, 4))), unit(ground, 2), nothing(ground, 2, 2),
                 Matrix(ground, ((0, 1), (0, 0))), of_chain(ground, (x * y, x)), of_chain(ground, (q,)),
                 in_another_basis(of_chain(ground, (x * x, x)), self.source), some_matrix(ground, 3, 3, self.source)]
        return dict(zip("abcdefghij", found))


class ReplyTest(unittest.TestCase):
    def test_fields(self):
        reply = Reply("kind")
        self.assertEqual((reply.kind, reply.text, reply.data), ("kind", "", ()))
        reply = Reply("kind", "a b", (1, "c"))
        self.assertEqual((reply.kind, reply.text, reply.data), ("kind", "a b", (1, "c")))
        reply = Reply(data=(1,), text="x", kind="y")
        self.assertEqual((reply.kind, reply.text, reply.data), ("y", "x", (1,)))

    def test_equality(self):
        for ground in GROUNDS:
            one = Reply("a", "b", (ground.one(), (1, "c")))
            self.assertIs(one == Reply("a", "b", (ground.one(), (1, "c"))), True)
            self.assertIs(one != Reply("a", "b", (ground.one(), (1, "c"))), False)
            for other in (Reply("b", "b", one.data), Reply("a", "c", one.data), Reply("a", "b"), Reply("a", "b", (1,)),
                          Reply("a", "b", (Ground(7).one(), (1, "c"))), Reply("a", "b", (ground.zero(), (1, "c")))):
                self.assertIs(one == other, False)
                self.assertIs(other == one, False)
                self.assertIs(one != other, True)
            for value in every_value() + [("a", "b", one.data)]:
                self.assertIs(one == value, False)


class DefiningTest(Base):
    def test_let(self):
        for ground in GROUNDS:
            for m in squares(ground, self.source)[::3]:
                text = matrix_text(m)
                self.assertReply({}, f"let a = {text}", Reply("matrix", text), ("a", m))
                self.assertReply({"a": unit(ground, 1)}, f" let  a  =  {text} ", Reply("matrix", text), ("a", m))

    def test_one_and_two_matrices(self):
        for ground in GROUNDS:
            names = self.named(ground)
            for word, function in MADE.items():
                for one in names:
                    for two in names if WORDS[word] == 3 else (None,):
                        line = " ".join((word, "new", one) + ((two,) if two else ()))
                        m = told(function, *[names[name] for name in (one, two) if name])
                        if isinstance(m, Reply):
                            self.assertReply(names, line, m)
                        else:
                            self.assertReply(names, line, Reply("matrix", matrix_text(m)), ("new", m))

    def test_powers(self):
        for ground in GROUNDS:
            names = self.named(ground)
            for name, a in names.items():
                for k in range(10):
                    m = a.power(k)
                    self.assertReply(names, f"power {name} {name} {k}", Reply("matrix", matrix_text(m)), (name, m))

    def test_unlike_grounds(self):
        for one in GROUNDS:
            for other in GROUNDS:
                if one != other:
                    names = {"a": unit(one, 2), "b": unit(other, 2), "c": Matrix(other, ())}
                    for line in ("sum x a b", "product x a b", "sum x a c", "similar a b", "similar b a", "similar a c"):
                        self.assertReply(names, line, error("malformed"))


class AskingTest(Base):
    def test_without_papers(self):
        for ground in GROUNDS:
            names = self.named(ground)
            for word, function in SHOWN.items():
                for name, a in names.items():
                    self.assertReply(names, f"{word} {name}", told(function, a))

    def test_told(self):
        names = {"a": Matrix(Ground(), ((0, 1), (-1, 0))), "b": Matrix(Ground(5), ((1, 2), (3, 4))),
                 "c": Matrix(Ground(), ((Ratio(1, 2), 1), (0, -3))), "d": unit(Ground(), 3)}
        half, three = Ratio(1, 2), Ratio(-3)
        for line, kind, text, data in (
                ("show a", "matrix", "q: 0 1; -1 0", ()), ("show b", "matrix", "5: 1 2; 3 4", ()),
                ("characteristic a", "polynomial", "(1)*x^2 + (1)", ()), ("determinant b", "number", "3", ()),
                ("determinant c", "number", "-3/2", ()), ("trace c", "number", "-5/2", ()), ("trace b", "number", "0", ()),
                ("commutant d", "number", "9", ()), ("commutant a", "number", "2", ()),
                ("eigenvalues c", "numbers", "-3 1/2", (three, half)), ("eigenvalues a", "numbers", "", ()),
                ("eigenvalues d", "numbers", "1", (Ratio(1),)), ("", "done", "", ()), ("# show a", "done", "", ()),
                ("   ", "done", "", ())):
            self.assertReply(names, line, Reply(kind, text, data))
        for line, kind, text in (("rank d", "number", "3"), ("minimal d", "polynomial", "(1)*x + (-1)"),
                                 ("factors d", "factors", "(1)*x + (-1); (1)*x + (-1); (1)*x + (-1)"),
                                 ("factors a", "factors", "(1)*x^2 + (1)"), ("similar a a", "similar", "yes"),
                                 ("similar a c", "similar", "no"), ("similar a d", "similar", "no")):
            self.assertEqual((reply_to(names, line).kind, reply_to(names, line).text), (kind, text))

    def test_large_eigenvalues(self):
        names = {"a": Matrix(Ground(), ((1000001,),))}
        self.assertReply(names, "eigenvalues a", error("refused large"))

    def test_papers(self):
        for ground in GROUNDS:
            names = self.named(ground)
            for name, a in names.items():
                for word, function in PAPERED.items():
                    kind, text, takes = function(a)
                    reply = reply_to(names, f"{word} {name}")
                    self.assertIs(takes(a, reply.data), True)
                    self.assertReply(names, f"{word} {name}", Reply(kind, text, reply.data))
                for other, b in names.items():
                    reply = reply_to(names, f"similar {name} {other}")
                    self.assertIs(takes_pair(a, b, reply.data), True)
                    text = "yes" if are_similar(a, b) else "no"
                    self.assertReply(names, f"similar {name} {other}", Reply("similar", text, reply.data))


class ErrorTest(Base):
    def test_no_lines(self):
        for line in every_value() + ["show", "show A", "nothing a", " #", "let a = 4:", "let a = q: 1 2", "#" * 2001,
                                     "show a\n", ["show a"], ("show a",), Reply("done")]:
            if line != "":
                for names in ({}, self.named(Ground())):
                    self.assertReply(names, line, error("text"))

    def test_names(self):
        names = {"a": unit(Ground(), 2), "b": unit(Ground(3), 1)}
        for word, many in WORDS.items():
            skipped = 1 if word in MADE else 0
            for k in range(skipped, many):
                words = [word] + ["a"] * many
                words[k + 1] = "none"
                self.assertReply(names, " ".join(words), error("refused name"))
        for line in ("power a none 2", "power none none 0", "similar b none", "sum a b none", "sum a none b",
                     "show let", "inverse c c"):
            self.assertReply(names, line, error("refused name"))

    def test_order(self):
        large = Matrix(Ground(), ((10 ** 20, 0), (0, 0)))
        names = {"a": large, "b": unit(Ground(2), 2), "c": unit(Ground(), 3)}
        for line, text in (("sum x a none 1", "text"), ("sum x none b", "refused name"), ("sum x a b", "malformed"),
                           ("sum x a c", "malformed"), ("inverse x a", "refused singular"),
                           ("product x a a", "refused digits"), ("transposed x a", "refused digits"),
                           ("inverse x none", "refused name"), ("similar a none", "refused name"),
                           ("let a = q: 1 " + "9" * 21, "text"), ("let a = q: " + "9" * 21, "refused digits")):
            self.assertReply(names, line, error(text))


class DigitsTest(Base):
    def test_twenty_and_twenty_one_digits(self):
        short, long = "9" * 20, "1" + "0" * 20
        for text in (short, f"-{short}", f"1/{short}", f"-1/{short}", f"{short}/1{'0' * 19}", f"{short}/7"):
            m = Matrix(Ground(), ((Ground().read(text),),))
            self.assertReply({}, f"let a = q: {text}", Reply("matrix", f"q: {text}"), ("a", m))
        for text in (long, f"-{long}", f"1/{long}", f"-1/{long}", f"{long}/7", f"7/{long}", f"-{long}/{long}7"):
            self.assertReply({}, f"let a = q: {text}", error("refused digits"))
            self.assertReply({}, f"let a = q: 0 0; 0 {text}", error("refused digits"))

    def test_lines_that_define(self):
        number = 10 ** 19
        names = {"a": Matrix(Ground(), ((number,),)), "b": Matrix(Ground(), ((9 * number,),)),
                 "c": Matrix(Ground(), ((10 * number,),)), "d": Matrix(Ground(), ((Ratio(1, 10 * number),),)),
                 "e": Matrix(Ground(), ((0, 10 * number), (0, 0)))}
        for line in ("sum x a b", "sum x c c", "product x a a", "power x a 2", "power x c 1", "transposed x c",
                     "inverse x c", "inverse x d", "form x c", "form x d", "semisimple x c", "nilpotent x e",
                     "transposed x e", "power x b 9"):
            self.assertReply(names, line, error("refused digits"))
        for line in ("sum x a a", "power x c 0", "semisimple x e", "nilpotent x c", "form x e", "product x c d"):
            self.assertEqual(reply_to(names, line).kind, "matrix")

    def test_other_lines_show_what_they_find(self):
        names = {"c": Matrix(Ground(), ((10 ** 20,),)), "d": Matrix(Ground(), ((Ratio(1, 10 ** 30),),)),
                 "e": unit(Ground(), 2).scaled(Ratio(10 ** 15))}
        self.assertReply(names, "show c", Reply("matrix", "q: 1" + "0" * 20))
        self.assertReply(names, "determinant d", Reply("number", "1/1" + "0" * 30))
        self.assertReply(names, "trace d", Reply("number", "1/1" + "0" * 30))
        self.assertReply(names, "determinant e", Reply("number", "1" + "0" * 30))
        self.assertReply(names, "characteristic c", Reply("polynomial", "(1)*x + (-1" + "0" * 20 + ")"))
        self.assertEqual(reply_to(names, "minimal c").text, "(1)*x + (-1" + "0" * 20 + ")")
        self.assertEqual(reply_to(names, "factors d").text, "(1)*x + (-1/1" + "0" * 30 + ")")
        self.assertEqual(reply_to(names, "rank c").text, "1")
        self.assertEqual(reply_to(names, "similar c d").text, "no")


class RightTest(Base):
    def test_every_value(self):
        names = {"a": unit(Ground(3), 2)}
        for value in every_value():
            for entry in (value, (value,), [value, Reply("done")], (value, value), ("x", value), ("rank a", value),
                          ("", Reply("done"), value), (Reply("done"), ""), ["", Reply("done")]):
                self.assertIs(is_right(names, entry), False)
            for line in ("rank a", "minimal a", "factors a", "similar a a", "show a", "", "rank b", "x"):
                for reply in (Reply(value), Reply("number", value), Reply("number", "2", value),
                              Reply("polynomial", "(1)*x + (2)", value), Reply("similar", "yes", value),
                              Reply("error", value, value), Reply(value, value, value)):
                    answer = is_right(names, (line, reply))
                    self.assertIs(answer, reply == reply_to(names, line))
        self.assertIs(is_right({}, ("", Reply("done"))), True)
        self.assertIs(is_right({}, (None, error("text"))), True)
        self.assertIs(is_right({}, (["x"], error("text"))), True)

    def test_lines_without_their_matrices(self):
        names = {"a": unit(Ground(3), 1), "b": unit(Ground(5), 1)}
        paper = rank_paper(names["a"])
        for line in ("rank c", "minimal c", "factors c", "similar a c", "similar c a"):
            self.assertIs(is_right(names, (line, error("refused name"))), True)
            self.assertIs(is_right(names, (line, Reply("number", "1", paper))), False)
        self.assertIs(is_right(names, ("similar a b", error("malformed"))), True)
        self.assertIs(is_right(names, ("similar a b", Reply("similar", "no", ("sizes",)))), False)
        self.assertIs(is_right(names, ("rank a", error("refused name"))), False)
        self.assertIs(is_right({}, ("rank a", Reply("number", "1", paper))), False)

    def test_any_paper(self):
        for ground in GROUNDS:
            a = Matrix(ground, ((1, 1), (0, 1)))
            b = unit(ground, 2)
            names = {"a": a, "b": b, "c": a * a.transposed(), "d": unit(ground, 1)}
            for x in commutant(a):
                if not x.determinant().is_zero():
                    paper = ("similar", x.rows, x.inverse().rows)
                    self.assertIs(is_right(names, ("similar a a", Reply("similar", "yes", paper))), True)
                    for wrong in (Reply("similar", "no", paper), Reply("similar", "", paper), Reply("number", "yes", paper),
                                  Reply("similar", "yes", paper + ((),)), Reply("similar", "yes", list(paper))):
                        self.assertIs(is_right(names, ("similar a a", wrong)), False)
                    one, two = Matrix(ground, form_paper(a)[2]) * x, x.inverse() * Matrix(ground, form_paper(a)[3])
                    paper = form_paper(a)[:2] + (one.rows, two.rows)
                    text = str(Poly(ground, (1, -2, 1)))
                    self.assertIs(is_right(names, ("factors a", Reply("factors", text, paper))), True)
                    self.assertIs(is_right(names, ("factors a", Reply("factors", f"{text}; (1)", paper))), False)
                    self.assertIs(is_right(names, ("factors b", Reply("factors", text, paper))), False)
            paper = rank_paper(a)
            t = Matrix(ground, ((1, 1), (1, 0)))
            other = ("rank", 2, (t * Matrix(ground, paper[2])).rows, (Matrix(ground, paper[3]) * t.inverse()).rows,
                     *paper[4:])
            for each, reply in ((paper, "2"), (other, "2"), (paper, "02"), (other, "3"), (paper, ""), (paper, 2)):
                self.assertIs(is_right(names, ("rank a", Reply("number", reply, each))), reply == "2")
            v = a.rows[0]
            more = ("minimal", (ground.number(1), ground.number(-2), ground.one()), v,
                    Matrix(ground, (v, a.before(v))).inverse().rows)
            self.assertIs(is_right(names, ("minimal a", Reply("polynomial", str(Poly(ground, more[1])), more))), True)
            self.assertIs(is_right(names, ("minimal a", Reply("polynomial", "(1)*x^2", more))), False)
            self.assertIs(is_right(names, ("minimal b", Reply("polynomial", str(Poly(ground, more[1])), more))), False)
            g = Poly(ground, (-1, 1))
            for scale in (1, -1):
                f = g.scaled(ground.number(scale))
                unlike = ("unlike", f.row, rank_paper(a.at(f)), rank_paper(b.at(f)))
                self.assertIs(is_right(names, ("similar a b", Reply("similar", "no", unlike))), True)
                self.assertIs(is_right(names, ("similar a b", Reply("similar", "yes", unlike))), False)
                self.assertIs(is_right(names, ("similar b a", Reply("similar", "no", unlike))), False)
            self.assertIs(is_right(names, ("similar a d", Reply("similar", "no", ("sizes",)))), True)
            self.assertIs(is_right(names, ("similar a b", Reply("similar", "no", ("sizes",)))), False)

    def test_no_paper_is_made_to_judge(self):
        names = self.named(Ground())
        lines = ["rank b", "minimal b", "factors b", "similar b b", "similar b c"]
        entries = [(line, reply_to(names, line)) for line in lines]
        makers = ("rank_paper", "minimal_paper", "form_paper", "pair_paper")
        with patch.multiple("similarforms.replies", **{name: None for name in makers}):
            self.assertEqual([is_right(names, entry) for entry in entries], [True] * 5)


class KindsTest(Base):
    def test_no_argument_is_changed(self):
        names = self.named(Ground(5))
        twin = copy.deepcopy(names)
        for line in ("let a = 5: 1", "sum a b b", "show a", "rank b", "similar b c", "", "x", "inverse d d"):
            reply_to(names, line)
            defined(names, line)
            is_right(names, (line, reply_to(names, line)))
            self.assertEqual(names, twin)

    def test_pairs_are_tuples(self):
        found = defined({}, "let a = 5: 1")
        self.assertIs(type(found), tuple)
        self.assertEqual(len(found), 2)

    def test_papers_are_those_of_the_chapter(self):
        a, b = Matrix(Ground(5), ((1, 2), (3, 4))), unit(Ground(5), 2)
        names = {"a": a, "b": b}
        for line, paper in (("rank a", rank_paper(a)), ("minimal a", minimal_paper(a)), ("factors a", form_paper(a)),
                            ("similar a b", pair_paper(a, b)), ("similar a a", pair_paper(a, a))):
            self.assertEqual(reply_to(names, line).data, paper)

    def test_no_error_leaves(self):
        for ground in GROUNDS:
            names = self.named(ground) | {"k": unit(Ground(7), 2)}
            for word, many in WORDS.items():
                for _ in range(6):
                    line = " ".join([word] + self.source.choices("abcdefghijkl", k=many))
                    try:
                        reply_to(names, line)
                        defined(names, line)
                    except Fault as fault:
                        self.fail((line, fault))
