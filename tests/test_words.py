import unittest

from farshelf.words import is_content, is_name, is_path

GOOD = "abcdefghijklmnopqrstuvwxyz0123456789"
# The neighbours of the ends of a to z and 0 to 9, capitals, blanks, and letters and figures of other scripts.
ODD = "`{/:@AZ_- \t\n\r\0,;\u00e4\u00df\u0430\u0661\u00b2\uff10"


class WordsCase(unittest.TestCase):
    def told(self, question, text, wanted):
        with self.subTest(text=text):
            self.assertIs(question(text), wanted)


class Names(WordsCase):
    def test_lengths(self):
        self.told(is_name, "", False)
        self.told(is_name, "a", True)
        self.told(is_name, "abcdefgh", True)
        self.told(is_name, "abcdefghi", False)

    def test_each_sign_alone_and_within(self):
        for sign in GOOD:
            self.told(is_name, sign, True)
            self.told(is_name, "a" + sign + "9", True)

    def test_all_other_plain_signs_are_none(self):
        for number in range(256):
            sign = chr(number)
            self.told(is_name, sign, sign in GOOD)

    def test_odd_signs_at_each_place(self):
        for sign in ODD + ".":
            self.told(is_name, sign, False)
            self.told(is_name, sign + "ab", False)
            self.told(is_name, "a" + sign + "b", False)
            self.told(is_name, "ab" + sign, False)

    def test_figures_alone_and_ahead(self):
        self.told(is_name, "0", True)
        self.told(is_name, "01234567", True)
        self.told(is_name, "9z", True)

    def test_capitals(self):
        self.told(is_name, "A", False)
        self.told(is_name, "Clash", False)
        self.told(is_name, "clash", True)


class Contents(WordsCase):
    def test_lengths(self):
        self.told(is_content, "", True)
        self.told(is_content, "a", True)
        self.told(is_content, "abcdefghi", True)
        for sign in "az09.":
            self.told(is_content, sign * 200, True)
            self.told(is_content, sign * 201, False)

    def test_the_point(self):
        self.told(is_content, ".", True)
        self.told(is_content, "...", True)
        self.told(is_content, "a.b.9", True)
        self.told(is_content, ".a", True)
        self.told(is_content, "a.", True)

    def test_all_other_plain_signs_are_none(self):
        for number in range(256):
            sign = chr(number)
            self.told(is_content, sign, sign in GOOD + ".")

    def test_odd_signs_at_each_place(self):
        for sign in ODD:
            self.told(is_content, sign, False)
            self.told(is_content, sign + "ab", False)
            self.told(is_content, "a" + sign + "b", False)
            self.told(is_content, "a" * 199 + sign, False)

    def test_the_whole_of_the_signs(self):
        self.told(is_content, GOOD + "." + GOOD, True)


class Paths(WordsCase):
    def test_the_root(self):
        self.told(is_path, "/", True)

    def test_names(self):
        self.told(is_path, "/a", True)
        self.told(is_path, "/a/b", True)
        self.told(is_path, "/a/a/a", True)
        self.told(is_path, "/abcdefgh/01234567/z9", True)
        self.told(is_path, "/a" * 700, True)

    def test_strokes(self):
        self.told(is_path, "", False)
        self.told(is_path, "a", False)
        self.told(is_path, "a/b", False)
        self.told(is_path, "/a/", False)
        self.told(is_path, "a/", False)
        self.told(is_path, "//", False)
        self.told(is_path, "///", False)
        self.told(is_path, "//a", False)
        self.told(is_path, "/a//b", False)
        self.told(is_path, "/a/b//", False)

    def test_names_that_are_none(self):
        for name in ("abcdefghi", "A", "a.b", ".", "..", "a b", "a\n", " "):
            self.told(is_path, "/" + name, False)
            self.told(is_path, "/" + name + "/b", False)
            self.told(is_path, "/a/" + name, False)
            self.told(is_path, "/a/" + name + "/b", False)

    def test_other_signs_in_the_strokes_place(self):
        self.told(is_path, "\\a", False)
        self.told(is_path, " /a", False)
        self.told(is_path, "/a ", False)
        self.told(is_path, "/\n", False)
        self.told(is_path, "\n", False)
        self.told(is_path, ".", False)


if __name__ == "__main__":
    unittest.main()
