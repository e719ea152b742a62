"""Point 10.7, and what point 10.6 says of lists of entries."""

import random
import unittest

from similarforms.errors import Malformed, NoText
from similarforms.ground import Ground
from similarforms.log import first_wrong, read_data, read_log, write_data, write_log
from similarforms.matrix import Matrix, unit
from similarforms.papers import form_paper, minimal_paper, pair_paper, rank_paper
from similarforms.poly import Poly
from similarforms.ratio import Ratio
from similarforms.replies import Reply, defined, is_right, reply_to
from similarforms.residue import Residue
from tests.samples import squares
from tests.values import GROUNDS, PRIMES, every_value, same_object_state, some, some_matrix

LONG = "1" + "0" * 4999
TOLD = [
    (0, "0"), (7, "7"), (-12, "-12"), (10 ** 70, "1" + "0" * 70), (-10 ** 64, "-1" + "0" * 64), ("a", "a"),
    ("q", "q"), ("m", "m"), ("qm", "qm"), ("abcdefghijkl", "abcdefghijkl"), (Ratio(0), "q0"), (Ratio(3), "q3"),
    (Ratio(-1, 2), "q-1/2"), (Residue(5, 3), "3m5"), (Residue(31, 30), "30m31"), (Residue(2, 0), "0m2"), ((), "()"),
    ((1,), "(1)"), (("a", 1), "(a 1)"), (((), ((),)), "(() (()))"), ((1, (Ratio(1, 2), "x"), Residue(3, 2)),
                                                                  "(1 (q1/2 x) 2m3)"),
    (10 ** 4999, LONG), (-10 ** 4999, f"-{LONG}"), (Ratio(10 ** 4999, 3), f"q{LONG}/3"), (Ratio(-1, 10 ** 4999),
                                                                                        f"q-1/{LONG}"),
]
NO_DATA = """+1 -0 01 -01 00 - -- 1- 1.5 1/2 q/2 q1/ q1/1 q2/4 q1/0 q1/-2 q01 q-0 q+1 qq1 q1q 3m 3m4 3m05 5m5 03m5 -1m5 3m5m
3mm5 3m-5 3m37 3m5/1 m3m5 q3m5 3mq5 3q A aB a1 1a abcdefghijklm a_b a-b = # > . , ;""".split()


class Base(unittest.TestCase):
    def setUp(self):
        self.source = random.Random(107)

    def assertNoText(self, at, function, value):
        with self.assertRaises(NoText, msg=value) as caught:
            function(value)
        self.assertEqual(caught.exception.at, at, value)

    def some_data(self, depth):
        """Return some plain data that are nested at most so deep."""
        kind = self.source.randint(0, 5 if depth > 0 else 3)
        if kind == 0:
            return self.source.choice((0, 1, -1, 25, -10 ** 30, 10 ** 300))
        if kind == 1:
            return "".join(self.source.choices("abmqz", k=self.source.randint(1, 12)))
        if kind in (2, 3):
            return some(self.source.choice(GROUNDS), self.source)
        return tuple(self.some_data(depth - 1) for _ in range(self.source.randint(0, 3)))


def nested(depth, inside=()):
    """Return a tuple that is nested so deep, and holds the items in its innermost tuple."""
    data = tuple(inside)
    for _ in range(depth - 1):
        data = (data,)
    return data


class DataTest(Base):
    def test_told(self):
        for data, text in TOLD:
            self.assertEqual(write_data(data), text)
            found = read_data(text)
            self.assertEqual(same_object_state(found), same_object_state(data))

    def test_there_and_back(self):
        for _ in range(1500):
            data = self.some_data(6)
            text = write_data(data)
            self.assertEqual(same_object_state(read_data(text)), same_object_state(data))
        for ground in GROUNDS:
            for a in squares(ground, self.source)[::4]:
                for paper in (rank_paper(a), minimal_paper(a), form_paper(a), pair_paper(a, unit(ground, len(a))), a.rows):
                    self.assertEqual(read_data(write_data(paper)), paper)

    def test_all_residues(self):
        for p in PRIMES:
            for number in Ground(p).members():
                self.assertEqual(write_data(number), f"{number.n}m{p}")
                self.assertEqual(read_data(f"{number.n}m{p}"), number)
            self.assertNoText(0, read_data, f"{p}m{p}")

    def test_depth(self):
        for inside in ((), (1,), ("a", Ratio(1, 2)), ((), 3, ())):
            deep = 19 if () in inside else 20
            data = nested(deep, inside)
            self.assertEqual(same_object_state(read_data(write_data(data))), same_object_state(data))
            with self.assertRaises(Malformed):
                write_data((data,))
            with self.assertRaises(Malformed):
                write_data((1, data, 2))
            self.assertNoText(0, read_data, f"({write_data(data)})")
            self.assertNoText(0, read_data, f"(1 {write_data(data)})")
        self.assertEqual(read_data("(" * 20 + ")" * 20), nested(20))
        for many in (21, 22, 100, 5000):
            self.assertNoText(0, read_data, "(" * many + ")" * many)
            with self.assertRaises(Malformed):
                write_data(nested(many))

    def test_malformed(self):
        plain = (int, str, Ratio, Residue, tuple)
        for value in every_value() + ["A", "a b", "a1", "abcdefghijklm", "a_", "\u00e9", "\u0430", "a\n", 1.5, b"a", {},
                                      Reply("a"), [()], "q1", "()", "-", "\u00aa"]:
            if type(value) not in plain or isinstance(value, str) and not (
                    0 < len(value) <= 12 and all("a" <= sign <= "z" for sign in value)):
                for data in (value, (value,), (1, value), ((), (("a", value), 2)), nested(20, (value,))):
                    with self.assertRaises(Malformed):
                        write_data(data)
        for value in (0, 1, "abc", (), Ratio(1), Residue(2, 1), ((), ()), (1, 2)):
            self.assertEqual(read_data(write_data((value, value))), (value, value))

    def test_no_text(self):
        for text in NO_DATA + ["", " ", "1 ", " 1", "1 2", "a b", "(", ")", "())", "(()", "( )", "(1 )", "( 1)", "(1  2)",
                               "(1)(2)", "()()", "(1(2))", "((2)1)", "(1 (2)3)", "1)", "(1", "(1\n2)", "1\n", "\n1",
                               "(1\t2)", "[1]", "(1,)", "(1, 2)", "() ", " ()", "None", "True", "\u0661", "q\u0661",
                               "1m\u0665", "\u00e9", "\u0430", "\u00b2", "(1\u00a02)", f"0{LONG}", f"-0{LONG}",
                               f"q{LONG}/{LONG}", f"{LONG}m5", f"1m{LONG}", "m" * 13, ")(", "(()))(", "q q1", "(q1 q2/4)"]:
            self.assertNoText(0, read_data, text)
            if text:
                self.assertNoText(0, read_data, f"({text})x")
        for value in every_value():
            if not isinstance(value, str) or value in ("", "1/2"):
                self.assertNoText(0, read_data, value)

    def test_changed_texts(self):
        for _ in range(1500):
            text = write_data(self.some_data(4))
            at = self.source.randint(0, len(text))
            sign = self.source.choice(" ()-/qm0159ab")
            new = self.source.choice((text[:at] + sign + text[at:], text[:at] + text[at + 1:],
                                      text[:at] + sign + text[at + 1:]))
            try:
                data = read_data(new)
            except NoText as fault:
                self.assertEqual(fault.at, 0)
            else:
                self.assertEqual(write_data(data), new)


class LogTest(Base):
    def entries(self):
        """Return entries of a worksheet, with right and with wrong replies, over all grounds."""
        names, found = {}, []
        for ground in GROUNDS:
            m = some_matrix(ground, 2, 2, self.source)
            for line in (f"let a = {ground.p or 'q'}: 1 2; 3 4", "rank a", "minimal a", "factors a", "form b a",
                         "similar a b", "eigenvalues a", "", "# x > y", "  ", "show none", "inverse c b", "x", "sum d a a",
                         "similar a d", "trace d"):
                found.append((line, reply_to(names, line)))
                told = defined(names, line)
                if told is not None:
                    names[told[0]] = told[1]
            found += [("show m", Reply("rows", "> a = b", m.rows)), ("", Reply("a", "", ((1, "x"), ground.one())))]
        return found

    def test_told(self):
        entries = [("show a", Reply("matrix", "q: 1")), ("", Reply("done")), ("x", Reply("error", "text")),
                   ("# y", Reply("abcdefghijkl", " two  ", (1, (Ratio(1, 2), "z"))))]
        text = ("> show a\n= matrix q: 1\n# ()\n> \n= done \n# ()\n> x\n= error text\n# ()\n> # y\n= abcdefghijkl  two  \n"
                "# (1 (q1/2 z))\n")
        self.assertEqual(write_log(entries), text)
        self.assertEqual(read_log(text), entries)
        self.assertEqual(write_log([]), "")
        self.assertEqual(read_log(""), [])

    def test_there_and_back(self):
        entries = self.entries() + [("\u00e9\r\t\x0c\u2028", Reply("a", "\r \u0085", ())), ("> a", Reply("a", "= b", ()))]
        text = write_log(entries)
        self.assertEqual(text.count("\n"), 3 * len(entries))
        found = read_log(text)
        self.assertIs(type(found), list)
        self.assertEqual(found, entries)
        for entry, told in zip(found, entries):
            self.assertIs(type(entry), tuple)
            self.assertIs(type(entry[1]), Reply)
            self.assertEqual(same_object_state(entry[1].data), same_object_state(told[1].data))
        self.assertEqual(write_log(found), text)

    def test_malformed(self):
        good = ("show a", Reply("a", "b", (1,)))
        self.assertEqual(read_log(write_log([good])), [good])
        wrong = [("a\n", good[1]), ("\n", good[1]), (None, good[1]), (1, good[1]), (("a",), good[1]), ["a", good[1]],
                 ("a",), ("a", good[1], 1), (good[1], "a"), (good[1], good[1]), ("a", "b"), ("a", ("b", "c", ())), good[1]]
        wrong += [("a", Reply(kind, "b", ())) for kind in ("", "A", "a b", "a1", "abcdefghijklm", None, 1, ("a",), "a\n",
                                                          "\u00e9", True, ())]
        wrong += [("a", Reply("a", text, ())) for text in ("a\n", "\n", "a\nb", None, 1, ("a",), True, [])]
        wrong += [("a", Reply("a", "b", data)) for data in (1, "a", None, [], [1], True, Ratio(1), Residue(2, 1), (None,),
                                                           (True,), ([],), ("A",), ("",), ((1, [2]),), nested(21),
                                                           (Poly(Ground(), ()),), Matrix(Ground(), ()), ("abcdefghijklm",))]
        for item in wrong + every_value():
            for entries in ([item], [good, item], [item, good]):
                with self.assertRaises(Malformed, msg=item):
                    write_log(entries)

    def test_number_of_the_wrong_line(self):
        good = "> a\n= b c\n# (1)\n> \n= d \n# ()\n"
        self.assertEqual(len(read_log(good)), 2)
        lines = good.split("\n")[:-1]
        wrong = (("", ">", ">a", "= b c", "# (1)", " > a", "> a"[:1]),
                 ("", "=", "= ", "= b", "=b c", "> a", "# (1)", "= B c", "=  c", "= abcdefghijklm c", "= a1 c", "= a\t c",
                  " = b c"),
                 ("", "#", "# ", "#()", "> a", "= b c", "# 1", "# a", "# q1", "# (", "# ( )", "# () ", "#  ()", "# (1  2)",
                  "# (A)", "# (01)", "# " + "(" * 21 + ")" * 21, "# (1) (2)"))
        for k in range(6):
            for line in wrong[k % 3]:
                text = "\n".join(lines[:k] + [line] + lines[k + 1:]) + "\n"
                self.assertNoText(k, read_log, text)
                # Wrong lines behind the first one, and a missing end, are not told.
                self.assertNoText(k, read_log, text + "x")
                self.assertNoText(k, read_log, text + "> a\n")
                self.assertNoText(k, read_log, text.replace("# (1)", "# x") if k < 2 else text)

    def test_texts_that_end_too_early(self):
        good = "> a\n= b c\n# (1)\n> \n= d \n# ()\n"
        for end in range(len(good)):
            text = good[:end]
            if text.count("\n") % 3 == 0 and (text == "" or text.endswith("\n")):
                self.assertEqual(read_log(text), read_log(good)[:text.count("\n") // 3])
            else:
                self.assertNoText(text.count("\n"), read_log, text)
        for more in ("x", ">", "> ", "> a", "> a\n= b c\n# ()", " ", "# ()"):
            self.assertNoText((good + more).count("\n"), read_log, good + more)
        self.assertNoText(6, read_log, good + "\n")
        self.assertNoText(0, read_log, "\n")
        self.assertNoText(0, read_log, "x")
        self.assertNoText(1, read_log, "> a\n")
        self.assertNoText(0, read_log, ">\r\n")

    def test_no_strings(self):
        for value in every_value() + [["> a"], b""]:
            if not isinstance(value, str):
                self.assertNoText(0, read_log, value)


class FirstWrongTest(Base):
    LINES = ["let a = q: 1 1; 0 1", "let b = q: 1 0; 0 1", "similar a b", "rank a", "minimal b", "factors b", "sum a a b",
             "show a", "similar a a", "# done", "let a = q: 1 0; 0 1", "similar a b", "rank c", "trace a", "bad line",
             "eigenvalues a", "transposed c a", "rank c"]

    def entries(self):
        names, found = {}, []
        for line in self.LINES:
            found.append((line, reply_to(names, line)))
            told = defined(names, line)
            if told is not None:
                names[told[0]] = told[1]
        return found

    def test_right(self):
        entries = self.entries()
        self.assertEqual(first_wrong(entries), -1)
        self.assertEqual(first_wrong([]), -1)
        self.assertEqual(first_wrong(read_log(write_log(entries))), -1)
        # The name c, which the line is refused for, is defined by then.
        self.assertEqual(first_wrong(entries * 2), len(entries) + self.LINES.index("rank c"))
        for k in range(len(entries)):
            self.assertEqual(first_wrong(entries[:k]), -1)

    def test_wrong_entries(self):
        entries = self.entries()
        for k, (line, reply) in enumerate(entries):
            for wrong in ((line, Reply(reply.kind, reply.text + "1", reply.data)), (line, Reply("other", reply.text)),
                          (line, Reply(reply.kind, reply.text, reply.data + ((),))), [line, reply], (line,), None, line,
                          (line, None), (line, reply, reply)):
                changed = entries[:k] + [wrong] + entries[k + 1:]
                before = list(changed)
                self.assertEqual(first_wrong(changed), k)
                self.assertEqual(changed, before)

    def test_any_paper(self):
        entries = self.entries()
        rows = Matrix(Ground(), ((1, 5), (0, 1)))
        paper = ("similar", rows.rows, rows.inverse().rows)
        at = self.LINES.index("similar a a")
        names = {"a": Matrix(Ground(), ((2, 1), (0, 2)))}
        self.assertIs(is_right(names, ("similar a a", Reply("similar", "yes", paper))), True)
        entries[at] = ("similar a a", Reply("similar", "yes", paper))
        self.assertEqual(first_wrong(entries), -1)

    def test_definitions_before(self):
        entries = self.entries()
        self.assertEqual(first_wrong(entries[1:]), 1)
        self.assertEqual(first_wrong(entries[2:]), 0)
        self.assertEqual(first_wrong([("rank a", Reply("error", "refused name"))] + entries), -1)
        failed = ("let a = q: 1 2", Reply("error", "text"))
        self.assertEqual(first_wrong(entries[:1] + [failed] + entries[1:]), -1)
        self.assertEqual(first_wrong([failed] + entries[2:4]), 1)

    def test_every_value(self):
        for value in every_value():
            self.assertEqual(first_wrong([value]), 0)
            self.assertEqual(first_wrong([("", Reply("done")), value]), 1)
            told = reply_to({}, value)
            self.assertEqual(first_wrong([(value, told)]), -1)
            self.assertEqual(first_wrong([(value, Reply(value, value, value))]), 0)
