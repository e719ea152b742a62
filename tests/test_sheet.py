"""Points 10.1 to 10.3."""

import random
import re
import unittest
from math import gcd

from similarforms.errors import Malformed, NoText
from similarforms.ground import Ground
from similarforms.matrix import Matrix, nothing, unit
from similarforms.ratio import Ratio
from similarforms.sheet import matrix_text, read_line, read_matrix
from tests.samples import not_square
from tests.values import GROUNDS, PRIMES, every_value, some_matrix

ITEM = re.compile(r"(-?[1-9][0-9]*|0)(?:/([1-9][0-9]*))?")
DEFINING = {"sum": 3, "product": 3, "transposed": 2, "inverse": 2, "form": 2, "semisimple": 2, "nilpotent": 2}
ASKING = {"show": 1, "rank": 1, "minimal": 1, "factors": 1, "similar": 2, "characteristic": 1, "determinant": 1,
          "trace": 1, "commutant": 1, "eigenvalues": 1}


def told_item(head, text):
    """Return True if the text is the written form of a number of the ground."""
    if head != "q":
        return text in [str(n) for n in range(int(head))]
    found = ITEM.fullmatch(text)
    if not found or not text.isascii():
        return False
    return found[2] is None or (found[2] != "1" and gcd(int(found[1]), int(found[2])) == 1)


def told_matrix(text):
    """Return the head and the rows of words of a text of a matrix, or None."""
    head, colon, body = text.partition(":")
    if head not in ["q"] + [str(p) for p in PRIMES] or colon == "" or len(text) > 2000:
        return None
    rows = body.split(";") if body else []
    words = [row[1:].split(" ") for row in rows]
    fits = len(rows) <= 8 and all(row[:1] == " " for row in rows) and all(len(row) == len(rows) for row in words)
    return (head, words) if fits and all(told_item(head, word) for row in words for word in row) else None


class Base(unittest.TestCase):
    def setUp(self):
        self.source = random.Random(101)

    def assertNoText(self, function, value):
        with self.assertRaises(NoText, msg=value) as caught:
            function(value)
        self.assertEqual(caught.exception.at, 0)


class MatrixTextTest(Base):
    def test_there_and_back(self):
        for ground in GROUNDS + tuple(Ground(p) for p in PRIMES):
            for n in range(9):
                for m in (some_matrix(ground, n, n, self.source), unit(ground, n), nothing(ground, n, n)):
                    text = matrix_text(m)
                    self.assertEqual(read_matrix(text), m)
                    head = str(ground.p or "q")
                    self.assertEqual(told_matrix(text), (head, [[str(x) for x in row] for row in m.rows]))

    def test_told(self):
        self.assertEqual(matrix_text(Matrix(Ground(5), ((1, 2), (3, 4)))), "5: 1 2; 3 4")
        self.assertEqual(matrix_text(Matrix(Ground(), ((Ratio(1, 2),),))), "q: 1/2")
        self.assertEqual(matrix_text(Matrix(Ground(5), ())), "5:")
        self.assertEqual(matrix_text(Matrix(Ground(), ())), "q:")
        self.assertEqual(matrix_text(Matrix(Ground(), ((0, 1), (-1, Ratio(-7, 3))))), "q: 0 1; -1 -7/3")
        self.assertEqual(read_matrix("31: 30"), Matrix(Ground(31), ((30,),)))
        self.assertEqual(read_matrix("q: -12/5"), Matrix(Ground(), ((Ratio(-12, 5),),)))

    def test_long_numbers(self):
        long = "9" * 4000
        number = Ground().read(long)
        self.assertEqual(matrix_text(Matrix(Ground(), ((number, -number), (1, 0)))), f"q: {long} -{long}; 1 0")
        self.assertEqual(read_matrix("q: " + "9" * 1997), Matrix(Ground(), ((Ground().read("9" * 1997),),)))
        self.assertNoText(read_matrix, "q: " + "9" * 1998)
        self.assertNoText(read_matrix, "q: " + "9" * 5000)

    def test_malformed(self):
        for ground in GROUNDS:
            for m in not_square(ground):
                with self.assertRaises(Malformed):
                    matrix_text(m)


class ReadMatrixTest(Base):
    def test_no_text(self):
        for text in ("", ":", "q", "5", "q ", "q :", " q:", "5: ", "q: ", "q:1", "q: 1 ", "q:  1", "q: 1;", "q: 1; ",
                     "q: 1; 2", "q: 1 2", "q: 1 2; 3", "q: 1 2; 3 4;", "q: 1 2 ;3 4", "q: 1 2;3 4", "q: 1 2;  3 4",
                     "q: 1  2; 3 4", "q: 1 2; 3 4 ", "q: 1 2, 3 4", "q: 1 2\n3 4", "q: 1\n", "\nq: 1", "q: 3/1",
                     "q: 2/4", "q: 1/0", "q: 1/-2", "q: 01", "q: -0", "q: 0/2", "q: +1", "q: 1.5", "q: x", "q: 1/02",
                     "q: --1", "q: 1/", "q: /2", "5: 5", "5: 01", "5: -1", "5: 1/2", "5: 7", "2: 2", "31: 31", "5: ",
                     "0: 1", "1: 0", "4:", "4: 1", "6: 1", "9:", "33:", "37:", "37: 1", "q5: 1", "05: 1", "-5: 1",
                     "+5: 1", "Q: 1", "p: 1", "q:: 1", "q: 1:", "5;", "5:\t1", "5: 1\t2; 3 4", "q: \u0661", "\u0665: 1",
                     "5: \u0661", "q: 1\u00a02; 3 4", "q: 1; 2; 3", ";", "5:;", "5: ;", "5:; ", "q: =", "q: 1=",
                     "q: 1 1; 1", "q: 1; 1 1", "q: " + "1" * 2000, "7" * 3000 + ":", "7" * 3000):
            self.assertNoText(read_matrix, text)
            self.assertIsNone(told_matrix(text))

    def test_nine_rows(self):
        for n in (8, 9, 10, 40):
            text = "2:" + ";".join([" 1" * n] * n)
            if n == 8:
                self.assertEqual(read_matrix(text), Matrix(Ground(2), [[1] * 8] * 8))
            else:
                self.assertNoText(read_matrix, text)

    def test_every_value(self):
        for value in every_value():
            self.assertNoText(read_matrix, value)
        for value in (["5:"], ("5:",), b"5:", 5, None, True):
            self.assertNoText(read_matrix, value)

    def test_changed_texts(self):
        for ground in GROUNDS:
            for n in (0, 1, 1, 2, 2, 3):
                text = matrix_text(some_matrix(ground, n, n, self.source))
                for _ in range(150):
                    at = self.source.randint(0, len(text))
                    sign = self.source.choice(" ;:/-0123579q")
                    new = self.source.choice((text[:at] + sign + text[at:], text[:at] + text[at + 1:],
                                              text[:at] + sign + text[at + 1:]))
                    told = told_matrix(new)
                    if told is None:
                        self.assertNoText(read_matrix, new)
                    else:
                        self.assertEqual(matrix_text(read_matrix(new)), new)


class ReadLineTest(Base):
    def test_lines_with_names(self):
        for word, many in {**DEFINING, **ASKING}.items():
            for names in (("a", "b", "c"), ("abcdefgh", "a", "let"), ("sum", "show", "zzzzzzzz"), ("x", "x", "x")):
                words = (word, *names[:many])
                self.assertEqual(read_line(" ".join(words)), words)
                self.assertEqual(read_line("  " + "   ".join(words) + "    "), words)
                for wrong in (words[:-1], words + ("a",), words[:-1] + ("abcdefghi",), words[:-1] + ("A",),
                              words[:-1] + ("a1",), words[:-1] + ("1",), words[:-1] + ("a-b",), words[:-1] + ("=",),
                              words[:-1] + ("a_",), words[1:], (word.upper(), *words[1:]), (word + "s", *words[1:]),
                              (word[:-1], *words[1:]), ("x", *words), words + ("#",), words + ("3",)):
                    self.assertNoText(read_line, " ".join(wrong))

    def test_powers(self):
        for n in range(10):
            self.assertEqual(read_line(f"power b a {n}"), ("power", "b", "a", n))
            self.assertIs(type(read_line(f"power b a {n}")[3]), int)
        self.assertEqual(read_line("  power   b  a  7  "), ("power", "b", "a", 7))
        for line in ("power b a", "power b a 10", "power b a 03", "power b a -1", "power b a x", "power b a 1 1",
                     "power b 1 a", "power b 1", "power 1 b a", "power b a +1", "power b a 1.", "power b a 1/2"):
            self.assertNoText(read_line, line)

    def test_let(self):
        for ground in GROUNDS:
            for n in range(6):
                m = some_matrix(ground, n, n, self.source)
                text = matrix_text(m)
                for line in (f"let a = {text}", f"  let   a   =   {text}   ", f" let a = {text}"):
                    self.assertEqual(read_line(line), ("let", "a", m))
        for name in ("a", "abcdefgh", "let", "sum"):
            self.assertEqual(read_line(f"let {name} = 5:"), ("let", name, Matrix(Ground(5), ())))
        for line in ("let", "let a", "let a =", "let a = ", "let = 5:", "let a 5:", "let a =5:", "let a= 5:", "let a=5:",
                     "leta = 5:", "let a == 5:", "let a = = 5:", "let a = 5: = ", "let a = =5:", "let a = q: 1 = 2",
                     "let a = q: 1=", "let a = q: 1; 2", "let a = q: 1  2; 3 4", "let A = 5:", "let abcdefghi = 5:",
                     "let a1 = 5:", "let a b = 5:", "let a = 5: 5", "let a = b", "let a = 4:", "let a := 5:",
                     "Let a = 5:", "let a = 5: #", "let = a = 5:", "let a = q: 1 ; 2"):
            self.assertNoText(read_line, line)

    def test_empty_lines(self):
        for line in ("", " ", "     ", "#", "# let a = 5:", "#show a", "#~", "# " * 1000, " " * 2000):
            self.assertEqual(read_line(line), ("empty",))
        for line in (" #", " # x", "  #x", "x #", "# \n", "#\t", "#\x7f", "#\u00e9", "\n", "\t", "\u00a0", " " * 2001,
                     "#" * 2001):
            self.assertNoText(read_line, line)

    def test_lengths(self):
        for line in ("show a", "let a = 5: 1", "power a b 2", "#", "sum a b c"):
            self.assertEqual(read_line(line + " " * (2000 - len(line))), read_line(line))
            self.assertNoText(read_line, line + " " * (2001 - len(line)))

    def test_signs(self):
        for code in list(range(32)) + [127, 128, 160, 233, 0x2003, 0x3000]:
            for line in (f"show a{chr(code)}", f"show{chr(code)}a", f"{chr(code)}show a", f"#{chr(code)}",
                         f"let a = 5:{chr(code)}", chr(code)):
                self.assertNoText(read_line, line)
        for code in range(32, 127):
            self.assertEqual(read_line(f"#{chr(code)}"), ("empty",))
            if not chr(code).islower():
                self.assertNoText(read_line, f"rank a{chr(code)}b")
        self.assertNoText(read_line, "rank \u0430")
        self.assertNoText(read_line, "rank \u00aa")
        self.assertNoText(read_line, "power a b \u0661")
        self.assertNoText(read_line, "power a b \u00b2")

    def test_every_value(self):
        for value in every_value() + ["a", "nothing a", "error", "empty", "done", ["show a"], ("show", "a"), b"show a"]:
            if value != "":
                self.assertNoText(read_line, value)
