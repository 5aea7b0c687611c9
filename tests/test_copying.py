import unittest

from farshelf.copying import is_fixed, own_copy


class Copies(unittest.TestCase):
    def test_the_same(self):
        for value in (0, "", None, True, (), [], (1, "a"), [1, (2, [3])], ("joined", [("put", 1), ["x", [()]]])):
            with self.subTest(value=value):
                self.assertEqual(own_copy(value), value)
                self.assertIs(type(own_copy(value)), type(value))

    def test_lists_at_every_depth_are_own_ones(self):
        value = [[1], ([2], [[3]])]
        copied = own_copy(value)
        copied[0].append(9)
        copied[1][0].append(9)
        copied[1][1][0].append(9)
        copied.append(9)
        self.assertEqual(value, [[1], ([2], [[3]])])

    def test_dicts(self):
        value = ({"k": [1]}, [{"m": {"n": [2]}}])
        copied = own_copy(value)
        self.assertEqual(copied, value)
        copied[0]["k"].append(9)
        copied[1][0]["m"]["n"].append(9)
        copied[0]["new"] = 1
        self.assertEqual(value, ({"k": [1]}, [{"m": {"n": [2]}}]))


class Fixed(unittest.TestCase):
    def test_fixed(self):
        for value in (0, "", None, True, (), (1, "a"), (1, (2, ("x", ())))):
            self.assertIs(is_fixed(value), True)

    def test_not_fixed(self):
        for value in ([], {}, ([],), (1, (2, ([],))), (1, {})):
            self.assertIs(is_fixed(value), False)


if __name__ == "__main__":
    unittest.main()
