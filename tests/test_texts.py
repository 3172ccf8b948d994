"""[81]: rows and LOGS as lines."""

import unittest

from ledclocks.texts import log_lines, row_line

ANN = ("ann", (1, 1), (1, 1))
BO = ("bo", (1, 2), (3, 2))
FIELD = ((ANN, BO), (("ann", "bo", (0, 1), None), ("bo", "ann", (1, 3), (5, 2))), "ann")
HEAD = ("court", FIELD, (("ann", 0, 12), ("bo", 3, 0)), (("ann", "bo"),), 4, 1)
LINES = ["court ann 4 1", "house ann 1 1", "house bo 1/2 3/2", "link ann bo 0 -", "link bo ann 1/3 5/2",
         "member ann 0 12", "member bo 3 0", "line ann bo"]


class TestRowLine(unittest.TestCase):
    def test_each_row(self):
        for row, line in ((("note", "ann", (5, 2), ("mark",)), "note ann 5/2 mark"),
                          (("note", "ann", (3, 1), ("send", 0)), "note ann 3 send 0"),
                          (("note", "bo", (4, 1), ("hear", 1)), "note bo 4 hear 1"),
                          (("note", "bo", (4, 1), ("hear", 120)), "note bo 4 hear 120"),
                          (("up", "ann", False), "up ann no"), (("up", "ann", True), "up ann yes"),
                          (("wire", "ann", "bo", True), "wire ann bo yes"),
                          (("wire", "bo", "ann", False), "wire bo ann no"), (("round",), "round")):
            told = row_line(row)
            self.assertEqual((told, type(told)), (line, str))

    def test_fractions(self):
        for fraction, word in (((0, 1), "0"), ((1, 1), "1"), ((-1, 1), "-1"), ((-7, 3), "-7/3"), ((10, 3), "10/3"),
                               ((999, 100), "999/100"), ((-10, 1), "-10"), ((100, 99), "100/99")):
            self.assertEqual(row_line(("note", "ann", fraction, ("mark",))), "note ann " + word + " mark")

    def test_long_numbers(self):
        for a in (10 ** 59, 10 ** 60 - 1, 10 ** 60, 10 ** 60 + 7, 10 ** 120 - 1, 3 * 10 ** 180 + 5, 12345 ** 40):
            for number in (a, -a):
                self.assertEqual(row_line(("note", "ann", (number, 1), ("mark",))), f"note ann {number} mark")
        # Longer than Python itself would write.
        told = row_line(("note", "ann", (10 ** 9000 + 1, 2), ("mark",)))
        self.assertEqual(told, "note ann 1" + "0" * 8999 + "1/2 mark")
        told = row_line(("note", "ann", (-(10 ** 9000), 1), ("mark",)))
        self.assertEqual(told, "note ann -1" + "0" * 9000 + " mark")

    def test_by_name(self):
        self.assertEqual(row_line(row=("round",)), "round")


class TestLogLines(unittest.TestCase):
    def test_a_first_row_alone(self):
        told = log_lines((HEAD,))
        self.assertEqual((told, type(told)), (LINES, list))
        self.assertEqual([type(line) for line in told], [str] * len(LINES))

    def test_with_deeds(self):
        log = (HEAD, ("note", "ann", (-5, 2), ("send", 0)), ("up", "bo", False), ("wire", "bo", "ann", True),
               ("round",), ("note", "bo", (0, 1), ("hear", 0)))
        self.assertEqual(log_lines(log), LINES + ["note ann -5/2 send 0", "up bo no", "wire bo ann yes", "round",
                                                  "note bo 0 hear 0"])

    def test_the_least_one(self):
        head = ("court", ((ANN,), (), "ann"), (), (), 0, 0)
        self.assertEqual(log_lines((head,)), ["court ann 0 0", "house ann 1 1"])

    def test_rows_stand_as_they_do(self):
        field = ((ANN, BO), (("bo", "ann", (1, 1), (1, 1)), ("ann", "bo", (2, 1), (3, 1))) * 2, "ann")
        told = log_lines((("court", field, (), (), 9, 4),))
        self.assertEqual(told[3:], ["link bo ann 1 1", "link ann bo 2 3"] * 2)

    def test_what_would_be_refused_is_written(self):
        self.assertEqual(log_lines((HEAD, ("note", "zed", (0, 1), ("hear", 99)), ("up", "zed", True)))[-2:],
                         ["note zed 0 hear 99", "up zed yes"])

    def test_what_is_told_is_the_askers_own(self):
        log = (HEAD,)
        log_lines(log).clear()
        self.assertEqual(log_lines(log), LINES)

    def test_by_name(self):
        self.assertEqual(log_lines(log=(HEAD,)), LINES)


if __name__ == "__main__":
    unittest.main()
