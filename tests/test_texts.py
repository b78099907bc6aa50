"""Texts of tables."""

from tests.samples import ALL_FAULTS, CALM, GUARD, NO_RULES, ONE, RULES, STUCK, WRONG_TABLES, Case, shifted
from threesfit.errors import BadTable, BadText
from threesfit.rules import read_table, table_text


class WriteTests(Case):
    def test_texts(self):
        self.is_just(table_text(ONE), "00")
        self.is_just(table_text(GUARD), "00 10 21\n01 11 20\n12 02 22")
        self.is_just(table_text(ALL_FAULTS), "00 00\n00 01")
        self.assertTrue(table_text(table=shifted(8)).startswith("17 27 37 47 57 67 77 07\n10 20 "))

    def test_wrong_tables(self):
        for table in WRONG_TABLES:
            self.refuses(BadTable, table, table_text, table)


class ReadTests(Case):
    def refuses_line(self, at, text):
        with self.assertRaises(BadText) as caught:
            read_table(text)
        self.assertIs(caught.exception.__class__, BadText)
        self.is_just(caught.exception.at, at)

    def test_read_and_write(self):
        for table in RULES + NO_RULES + [shifted(n) for n in range(1, 9)]:
            self.is_just(read_table(table_text(table)), table)
        self.is_just(read_table(text="00"), ONE)

    def test_no_strings(self):
        for text in WRONG_TABLES + [CALM, 0, b"00", ["00"], ("00",), {"00": 1}]:
            if not isinstance(text, str):
                self.refuses_line(0, text)

    def test_first_line(self):
        for text in ["", "\n", " ", "0", "000", "0 0", "01", "10", "00 ", " 00", "0 ", " 0", "-0", "+0", "00\t00", "a0",
                     "0a", "00  10", "00 10 ", " 00 10", "00,10", "00 12", "20 00", "00 1", "00 100", "00 10\r\n01 11",
                     " ".join(["00"] * 9), " ".join(["08"] + ["00"] * 7), " ".join(["90"] + ["00"] * 7), "\u0660\u0660",
                     "00 10 \n01 11", "\n00", "row", "00\x0b", "\u00b2\u00b2", "x" * 600, "00 " * 200]:
            self.refuses_line(1, text)

    def test_wrong_sign_at_each_place(self):
        for table in [ONE, CALM, STUCK, shifted(8)]:
            text = table_text(table)
            for k, sign in enumerate(text):
                line = text[:k].count("\n") + 1
                for other in "89-x .":
                    if other != sign and sign != "\n":
                        self.refuses_line(line, text[:k] + other + text[k + 1:])
                if sign == " ":
                    self.refuses_line(line, text[:k] + "0" + text[k + 1:])
                if sign != "\n" and sign != " ":
                    self.refuses_line(line, text[:k] + " " + text[k + 1:])

    def test_digits_of_the_size(self):
        for n in range(1, 8):
            lines = table_text(shifted(n)).split("\n")
            for k in range(n):
                wrong = lines[k][:-2] + f"0{n}"
                self.refuses_line(k + 1, "\n".join(lines[:k] + [wrong] + lines[k + 1:]))

    def test_lines_missing_or_too_many(self):
        for table in [CALM, GUARD, STUCK, shifted(8)]:
            lines = table_text(table).split("\n")
            for many in range(1, len(lines)):
                self.refuses_line(many + 1, "\n".join(lines[:many]))
                self.refuses_line(many + 1, "\n".join(lines[:many]) + "\n")
            for line in lines + ["", " ", "row"]:
                self.refuses_line(len(lines) + 1, "\n".join(lines + [line]))
                self.refuses_line(len(lines) + 1, "\n".join(lines + [line, line]))
        self.refuses_line(2, "00\n")
        self.refuses_line(2, "00\n00")
        self.refuses_line(3, "00 10\n01 11\n")

    def test_words_missing_or_too_many(self):
        self.refuses_line(2, "00 10\n01 11 00")
        self.refuses_line(2, "00 10\n01  11")
        self.refuses_line(2, "00 10\n01 11 \n")
        self.refuses_line(2, "00 10\n\n01 11")
        self.refuses_line(3, "00 10 21\n01 11 20\n12 02")

    def test_first_wrong_line_is_told(self):
        self.refuses_line(2, "00 10 21\n01 11 2x\n12 02 3x\n")
        self.refuses_line(1, "00 10 2x\n01")
        self.refuses_line(3, "00 10 21\n01 11 20\n12 02 2\n12")
