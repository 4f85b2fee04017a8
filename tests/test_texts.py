"""[t1] and [t2]: the text of a table, the table of a text, and the first fault of a text."""

import re
import unittest
from itertools import product

from formalconcepts.errors import ConceptFault, TextFault
from formalconcepts.texts import read, write
from tests.samples import EXAMPLE, GREATEST, NEITHER, NO_MARKS, NO_THINGS, tables_up_to

PAIRS = (
    (EXAMPLE, "marks 3\nxx.\nx.x\n.x.\n"),
    (NEITHER, "marks 0\n"),
    (NO_THINGS, "marks 3\n"),
    (NO_MARKS, "marks 0\n\n\n"),
    (("table", 0, ((),)), "marks 0\n\n"),
    (("table", 1, ((), (0,))), "marks 1\n.\nx\n"),
    (("table", 4, ((), (0, 1, 2, 3), (0, 3))), "marks 4\n....\nxxxx\nx..x\n"),
    (("table", 12, ((0, 9, 11),)), "marks 12\nx........x.x\n"),
)


def first_fault(text):
    """Return the first fault of a text as [t2] tells it, None if there is none."""
    lines = re.findall(r"[^\n]*\n|[^\n]+", text)
    if not lines:
        return (1, "expected marks")
    for number, line in enumerate(lines, start=1):
        bare = line.rstrip("\n")
        if number == 1:
            if re.fullmatch(r"marks (0|[1-9][0-9]?)", bare) is None:
                return (number, "expected marks")
        elif re.search(r"[^x.]", bare):
            return (number, "unknown sign")
        elif len(bare) != int(lines[0].split()[1]):
            return (number, "wrong length")
        if not line.endswith("\n"):
            return (number, "unended")
    return None


class WriteTest(unittest.TestCase):
    """[t1]"""

    def test_the_text_of_a_table(self):
        for table, text in PAIRS:
            self.assertEqual(write(table), text)

    def test_it_is_a_text(self):
        for table, _ in PAIRS:
            self.assertIs(type(write(table)), str)

    def test_a_table_is_read_from_its_own_text(self):
        for table in tables_up_to(3, 3) + [GREATEST]:
            self.assertEqual(read(write(table)), table)


class ReadTest(unittest.TestCase):
    """[t2], and the shape of [c1]"""

    def fault_of(self, text):
        with self.assertRaises(TextFault) as caught:
            read(text)
        return (caught.exception.line, caught.exception.reason)

    def test_the_table_of_a_text(self):
        for table, text in PAIRS:
            self.assertEqual(read(text), table)

    def test_the_shape_of_what_is_read(self):
        for _, text in PAIRS:
            table = read(text)
            self.assertIs(type(table), tuple)
            self.assertIs(type(table[1]), int)
            self.assertIs(type(table[2]), tuple)
            for row in table[2]:
                self.assertIs(type(row), tuple)
                self.assertTrue(all(type(mark) is int for mark in row))

    def test_each_number_of_marks(self):
        for many in range(100):
            self.assertEqual(read(f"marks {many}\n"), ("table", many, ()))

    def test_the_text_without_lines(self):
        self.assertEqual(self.fault_of(""), (1, "expected marks"))

    def test_first_lines_that_are_none(self):
        for line in (
            "", " ", "marks", "marks ", "mark 3", "Marks 3", "MARKS 3", "marks  3", " marks 3", "marks 3 ",
            "marks\t3", "marks3", "marks 3 3", "marks x", "marks 3x", "marks x3", "marks 00", "marks 03",
            "marks 007", "marks 100", "marks 123", "marks -1", "marks +1", "marks 1.", "marks 1_", "marks _1",
            "marks 1_0", "marks 0x", "marks \u0663", "marks 1\u0663", "marks \u00b2", "marks \uff13",
            "marks 3\r", "marks 3\x0b", "marks 3\u2028", "\ufeffmarks 3", "xx.", "marks: 3", "things 3",
        ):
            for rest in ("\n", "\nxxx\n", "\n?\n", ""):
                self.assertEqual(self.fault_of(line + rest), (1, "expected marks"), line)

    def test_unknown_sign_at_each_line(self):
        for sign in ("X", "o", " ", "0", ",", "\r", "\t", "\x0c", "\x85", "\u2028", "\u0445"):
            line = "x" + sign + "."
            self.assertEqual(self.fault_of(f"marks 3\n{line}\nxxx\n...\n"), (2, "unknown sign"))
            self.assertEqual(self.fault_of(f"marks 3\nxxx\n{line}\n...\n"), (3, "unknown sign"))
            self.assertEqual(self.fault_of(f"marks 3\nxxx\n...\n{line}\n"), (4, "unknown sign"))

    def test_unknown_sign_at_each_place_of_a_line(self):
        for line in ("?..", ".?.", "..?", "???"):
            self.assertEqual(self.fault_of(f"marks 3\n{line}\n"), (2, "unknown sign"))

    def test_wrong_length_at_each_line(self):
        for line in ("", "x", "xx", "x.x.", "xxxxxx"):
            self.assertEqual(self.fault_of(f"marks 3\n{line}\nxxx\n...\n"), (2, "wrong length"))
            self.assertEqual(self.fault_of(f"marks 3\nxxx\n{line}\n...\n"), (3, "wrong length"))
            self.assertEqual(self.fault_of(f"marks 3\nxxx\n...\n{line}\n"), (4, "wrong length"))

    def test_a_line_with_signs_where_there_are_no_marks(self):
        self.assertEqual(self.fault_of("marks 0\n\nx\n"), (3, "wrong length"))
        self.assertEqual(self.fault_of("marks 0\n \n"), (2, "unknown sign"))

    def test_an_empty_line_at_the_end_is_a_line(self):
        self.assertEqual(self.fault_of("marks 2\nxx\n\n"), (3, "wrong length"))

    def test_unended(self):
        self.assertEqual(self.fault_of("marks 3"), (1, "unended"))
        self.assertEqual(self.fault_of("marks 0"), (1, "unended"))
        self.assertEqual(self.fault_of("marks 3\nxx."), (2, "unended"))
        self.assertEqual(self.fault_of("marks 3\nxx.\nx.x\n.x."), (4, "unended"))

    def test_unended_stands_behind_the_other_faults_of_its_line(self):
        self.assertEqual(self.fault_of("marks"), (1, "expected marks"))
        self.assertEqual(self.fault_of("marks 3\nxxx\nx?x"), (3, "unknown sign"))
        self.assertEqual(self.fault_of("marks 3\nxxx\nx?"), (3, "unknown sign"))
        self.assertEqual(self.fault_of("marks 3\nxxx\nxx"), (3, "wrong length"))

    def test_unended_stands_behind_the_faults_of_earlier_lines(self):
        self.assertEqual(self.fault_of("marks 03\nxxx"), (1, "expected marks"))
        self.assertEqual(self.fault_of("marks 3\nx?x\nxxx"), (2, "unknown sign"))
        self.assertEqual(self.fault_of("marks 3\nxx\nxxx"), (2, "wrong length"))

    def test_a_line_with_several_faults(self):
        self.assertEqual(self.fault_of("marks 3\nxx?x\n"), (2, "unknown sign"))
        self.assertEqual(self.fault_of("marks 3\n?\n"), (2, "unknown sign"))
        self.assertEqual(self.fault_of("marks 3\nxxxx?\n"), (2, "unknown sign"))

    def test_of_several_lines_with_faults_the_first_one_is_told(self):
        self.assertEqual(self.fault_of("marks 3\nxx\nx?x\n"), (2, "wrong length"))
        self.assertEqual(self.fault_of("marks 3\nx?x\nxx\n"), (2, "unknown sign"))
        self.assertEqual(self.fault_of("mark 3\nx?x\nxx\n"), (1, "expected marks"))

    def test_a_fault_is_caught_as_the_base(self):
        with self.assertRaises(ConceptFault):
            read("marks 3\nxx\n")

    def test_all_short_texts(self):
        for head in ("", "\n", "marks 0\n", "marks 1\n", "marks 2\n", "marks 2", "marks 02\n"):
            for size in range(6):
                for signs in product("x.?\n", repeat=size):
                    text = head + "".join(signs)
                    fault = first_fault(text)
                    if fault is None:
                        self.assertEqual(write(read(text)), text)
                    else:
                        self.assertEqual(self.fault_of(text), fault, text)


if __name__ == "__main__":
    unittest.main()
