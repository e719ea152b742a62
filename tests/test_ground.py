"""Point 1.4, and reading written forms."""

import random
import unittest
from fractions import Fraction

from similarforms.errors import Malformed, NoText, Refused, ZeroDivisor
from similarforms.ground import Ground, taken
from similarforms.ratio import Ratio
from similarforms.residue import Residue
from tests.values import LARGE, PRIMES, every_value

NEARLY = (
    "", " ", "  ", "1 ", " 1", "1\n", "\n1", "\t1", "1 2", "+1", "+0", "00", "01", "007", "-0", "-00", "-01", "--1",
    "1/1", "2/4", "4/2", "0/1", "0/3", "-0/3", "1/0", "0/0", "1/-2", "-1/-2", "1/+2", "1/02", "01/2", "1/", "/2", "/",
    "-", "-/2", "1//2", "1/2/3", "1/2/", "1 /2", "1/ 2", "3/6", "-2/4", "10/5", "1_0", "0x1", "1.0", "1.5", "1e1", "a",
    "q1", "1m2", "True", "None", "\u0661", "\u00b2", "\uff11", "1/\uff12", "-\u0663", "\u22121",
)


class GroundTest(unittest.TestCase):
    def test_grounds(self):
        self.assertEqual(Ground().p, 0)
        for p in (0, *PRIMES):
            self.assertEqual(Ground(p).p, p)
            self.assertEqual(Ground(p=p).p, p)

    def test_no_grounds(self):
        for p in [*range(-40, 60), LARGE, -LARGE, *every_value()]:
            if not (type(p) is int and p in (0, *PRIMES)):
                with self.assertRaises(Malformed):
                    Ground(p)

    def test_equality(self):
        for p in (0, *PRIMES):
            for q in (0, *PRIMES):
                self.assertIs(Ground(p) == Ground(q), p == q)
                self.assertIs(Ground(p) != Ground(q), p != q)
            for value in every_value():
                self.assertIs(Ground(p) == value, type(value) is Ground and value.p == p)

    def test_number_of_the_rationals(self):
        for n in range(-6, 7):
            self.assertEqual(Ground().number(n), Ratio(n))
            for d in (-4, -1, 1, 2, 6):
                self.assertEqual(Ground().number(n, d), Ratio(n, d))
                self.assertEqual(Ground().number(n=n, d=d), Ratio(n, d))
            with self.assertRaises(ZeroDivisor):
                Ground().number(n, 0)

    def test_number_modulo_a_prime(self):
        for p in PRIMES:
            for n in [*range(-p - 1, p + 2), LARGE, -LARGE]:
                self.assertEqual(Ground(p).number(n), Residue(p, n))
                for d in [*range(-p - 1, 2 * p + 1), LARGE]:
                    if d % p == 0:
                        with self.assertRaises(ZeroDivisor):
                            Ground(p).number(n, d)
                    else:
                        self.assertEqual(Ground(p).number(n, d), Residue(p, n * pow(d, -1, p)))

    def test_zero_and_one(self):
        self.assertEqual((Ground().zero(), Ground().one()), (Ratio(0), Ratio(1)))
        for p in PRIMES:
            self.assertEqual((Ground(p).zero(), Ground(p).one()), (Residue(p, 0), Residue(p, 1)))

    def test_is_member(self):
        numbers = [Residue(p, n) for p in PRIMES for n in (0, 1, p - 1)]
        for value in every_value() + numbers:
            self.assertIs(Ground().is_member(value), type(value) is Ratio)
            for p in PRIMES:
                self.assertIs(Ground(p).is_member(value), type(value) is Residue and value.p == p)

    def test_members(self):
        for p in PRIMES:
            members = Ground(p).members()
            self.assertIs(type(members), tuple)
            self.assertEqual(members, tuple(Residue(p, n) for n in range(p)))
        with self.assertRaises(Refused) as caught:
            Ground().members()
        self.assertEqual(caught.exception.reason, "many")

    def test_taken(self):
        for p in (0, *PRIMES):
            ground = Ground(p)
            for value in every_value():
                if ground.is_member(value):
                    self.assertIs(taken(ground, value), value)
                elif type(value) is int:
                    self.assertEqual(taken(ground, value), ground.number(value))
                else:
                    with self.assertRaises(Malformed):
                        taken(ground, value)

    def test_numbers_of_unlike_grounds_are_unlike(self):
        ones = [Ground(p).one() for p in (0, *PRIMES)]
        for i, one in enumerate(ones):
            for k, other in enumerate(ones):
                self.assertIs(one == other, i == k)


class ReadTest(unittest.TestCase):
    def assertNoText(self, ground, text):
        with self.assertRaises(NoText) as caught:
            ground.read(text)
        self.assertEqual(caught.exception.at, 0)

    def test_rationals_are_read_back(self):
        for n in range(-40, 41):
            for d in range(1, 30):
                number = Ground().read(str(Fraction(n, d)))
                self.assertIs(type(number), Ratio)
                self.assertEqual(number, Ratio(n, d))
                self.assertEqual(str(number), str(Fraction(n, d)))

    def test_residues_are_read_back(self):
        for p in PRIMES:
            for number in Ground(p).members():
                self.assertEqual(Ground(p).read(str(number)), number)

    def test_texts_that_are_nearly_a_written_form(self):
        for text in NEARLY:
            with self.subTest(text=text):
                self.assertNoText(Ground(), text)
                for p in PRIMES:
                    self.assertNoText(Ground(p), text)

    def test_texts_of_other_grounds(self):
        for p in PRIMES:
            for text in (str(p), str(p + 1), str(10 * p), "-1", f"-{p - 1}", "1/2", "-1/2", "100", "9" * 6000):
                self.assertNoText(Ground(p), text)

    def test_values_that_are_no_strings(self):
        for value in every_value():
            if type(value) is not str:
                for p in (0, *PRIMES):
                    self.assertNoText(Ground(p), value)

    def test_lengths_beside_the_pieces(self):
        for length in [*range(1, 5), 63, 64, 65, 127, 128, 129, 191, 192, 193, 255, 256, 257, 4300, 4301]:
            for digit in ("1", "9"):
                text = digit * length
                self.assertEqual(str(Ground().read(text)), text)
            power = 10 ** (length - 1)
            self.assertEqual(str(Ratio(power)), "1" + "0" * (length - 1))
            self.assertEqual(str(Ratio(power - 1)), "9" * (length - 1) or "0")
            self.assertEqual(Ground().read("1" + "0" * (length - 1)), Ratio(power))

    def test_thousands_of_digits(self):
        zeros = "0" * 5000
        self.assertEqual(str(Ratio(LARGE)), "1" + zeros)
        self.assertEqual(str(Ratio(-LARGE)), "-1" + zeros)
        self.assertEqual(str(Ratio(1, LARGE)), "1/1" + zeros)
        self.assertEqual(Ground().read("1" + zeros), Ratio(LARGE))
        self.assertEqual(Ground().read("-1" + zeros), Ratio(-LARGE))
        self.assertEqual(Ground().read("-1/1" + zeros), Ratio(-1, LARGE))
        power = "1" + zeros
        for text in ("0" + power, "-0" + power, "2/" + power, power + "/" + power, power + "a", "+" + power):
            self.assertNoText(Ground(), text)

    def test_long_digits_that_are_all_kinds(self):
        source = random.Random(5)
        for length in (4299, 4300, 4301, 9999, 20000):
            digits = [source.randint(0, 9) for _ in range(length)]
            digits[0] = 7
            value = 0
            for digit in digits:
                value = 10 * value + digit
            text = "".join(map(str, digits))
            self.assertEqual(str(Ratio(value)), text)
            self.assertEqual(str(Ratio(-value)), "-" + text)
            self.assertEqual(Ground().read(text).n, value)
            self.assertEqual(Ground().read("-" + text).n, -value)
