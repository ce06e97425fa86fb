"""Lines of a desk, and how they are read [100] [101]."""

import unittest

from halvedpictures.desklines import read_line
from halvedpictures.errors import NoLine
from tests.helper import assert_refused, shown, wrong_things

THIRTY = "1" + "0" * 29
# Of each line one that is right, and what it tells.
RIGHT = [
    ("plan 2 3 half rp", ("plan", 2, 3, "half", "rp")),
    ("field 1 -2; 3 4", ("field", "1 -2; 3 4")),
    ("put 1 0 -3", ("put", 1, 0, -3)),
    ("add 0 1", ("add", "0 1")),
    ("undo", ("undo",)),
    ("take halved 1 1 sum - 0 83:", ("take", "halved 1 1 sum - 0 83:")),
    ("picture", ("picture",)),
    ("numbers", ("numbers",)),
    ("deeds", ("deeds",)),
    ("coarse 2", ("coarse", 2)),
    ("hangs 1 2", ("hangs", 1, 2)),
    ("needs 0 3", ("needs", 0, 3)),
    ("share 1 0 2", ("share", 1, 0, 2)),
    ("left 5", ("left", 5)),
    ("keep 7", ("keep", 7)),
    ("within 100", ("within", 100)),
    ("noughts", ("noughts",)),
    ("compare bb", ("compare", "bb")),
    ("signs", ("signs",)),
    ("read x", ("read", "x")),
]
WITH_TEXT = ("field", "add", "take", "read")


class ReadTest(unittest.TestCase):
    def test_each_of_the_twenty(self):
        self.assertEqual(len(RIGHT), 20)
        for line, due in RIGHT:
            told = read_line(line)
            self.assertEqual(shown(told), shown(due))
            self.assertEqual(shown(read_line(line)), shown(due))

    def test_texts(self):
        for word in WITH_TEXT:
            for text in ("", " ", "-", "  x ", "1 2; 3 4", "field 1", ";", "~!@#", " -0 +1", "x" * 19000):
                self.assertEqual(read_line(f"{word} {text}"), (word, text))

    def test_ways(self):
        for line, way in (("compare -", ""), ("compare --", "--"), ("compare r-", "r-"), ("compare xyz", "xyz"),
                          ("compare 12", "12"), ("compare " + "r" * 600, "r" * 600)):
            self.assertEqual(shown(read_line(line)), shown(("compare", way)))
            self.assertEqual(shown(read_line("plan 1 2 sum " + line[8:])), shown(("plan", 1, 2, "sum", way)))

    def test_words(self):
        for word in ("-", "sums", "12", "~", "-1", "SUM", "a;b"):
            self.assertEqual(shown(read_line(f"plan 1 2 {word} -")), shown(("plan", 1, 2, word, "")))

    def test_numbers_plainly_written(self):
        for text in ("0", "1", "-1", "9", "10", "-305", THIRTY, "-" + THIRTY, "9" * 30, "-" + "9" * 30):
            self.assertEqual(shown(read_line(f"coarse {text}")), shown(("coarse", int(text))))
            self.assertEqual(shown(read_line(f"put {text} {text} {text}")), shown(("put",) + (int(text),) * 3))
            self.assertEqual(shown(read_line(f"plan {text} {text} x y")),
                             shown(("plan", int(text), int(text), "x", "y")))
            self.assertEqual(shown(read_line(f"share {text} 0 {text}")), shown(("share", int(text), 0, int(text))))
        for text in ("-0", "00", "01", "-01", "+1", "+0", "1" + THIRTY, "-1" + THIRTY, "1.0", "1e3", "1_0", "x", "--1",
                     "-", "1-", "0x1", "", "\t1", "1;", THIRTY + "x"):
            for line in (f"coarse {text}", f"put {text} 0 0", f"put 0 {text} 0", f"put 0 0 {text}", f"hangs {text} 0",
                         f"hangs 0 {text}", f"needs 0 {text}", f"share {text} 0 0", f"share 0 {text} 0",
                         f"share 0 0 {text}", f"left {text}", f"keep {text}", f"within {text}", f"plan {text} 1 sum -",
                         f"plan 1 {text} sum -"):
                assert_refused(self, NoLine, {"found": line}, read_line, line)


class RefusedTest(unittest.TestCase):
    def test_any_thing(self):
        for thing in wrong_things() + [["undo"], ("undo",), {"undo": 1}, [["put", 1, 0, 3]], ("put", 1, 0, -3)]:
            assert_refused(self, NoLine, {"found": thing}, read_line, thing)

    def test_blanks_too_many_or_too_few(self):
        for line, due in RIGHT:
            wrong = [" " + line, "\n" + line, line + "\n", line.replace(" ", "\n", 1) if " " in line else line + "\n"]
            if due[0] not in WITH_TEXT:
                wrong += [line + " ", line + "  ", line + " 1", line + " x"]
                # Each blank twice, by itself, and each left out.
                for at in [at for at, sign in enumerate(line) if sign == " "]:
                    wrong += [line[:at] + " " + line[at:], line[:at] + line[at + 1:]]
            for text in wrong:
                assert_refused(self, NoLine, {"found": text}, read_line, text)

    def test_too_few_words(self):
        for word in WITH_TEXT:
            assert_refused(self, NoLine, {"found": word}, read_line, word)
        for line, due in RIGHT:
            if due[0] not in WITH_TEXT:
                for many in range(1, len(due)):
                    text = " ".join(line.split(" ")[:many])
                    assert_refused(self, NoLine, {"found": text}, read_line, text)
                    assert_refused(self, NoLine, {"found": text + " "}, read_line, text + " ")

    def test_line_feeds_in_texts(self):
        for word in WITH_TEXT:
            for text in ("\n", "1\n", "\n1", "1; \n2"):
                line = f"{word} {text}"
                assert_refused(self, NoLine, {"found": line}, read_line, line)

    def test_other_words(self):
        for line in ("", " ", "Undo", "UNDO", "undone", "und", "plans 1 1 sum -", "Put 1 0 3", "text 1", "way r", "-",
                     "number", "halved", "say undo", "put,1,0,3", "undo;", "undo undo"):
            assert_refused(self, NoLine, {"found": line}, read_line, line)


if __name__ == "__main__":
    unittest.main()
