import unittest

from bandwright import errors
from bandwright.errors import NoFit, NoLink, NoOrder, NoOver, NoShape, NoSize, NoWorld, Tied, WrightError

OF_A_TEXT = [NoWorld, NoOver, NoFit, NoShape, NoOrder, NoSize, NoLink]


class Errors(unittest.TestCase):
    def test_the_first_stands_right_under_value_error(self):
        self.assertEqual(WrightError.__bases__, (ValueError,))

    def test_each_stands_right_under_the_first(self):
        for each in OF_A_TEXT + [Tied]:
            self.assertEqual(each.__bases__, (WrightError,), each)

    def test_none_stands_under_another_one(self):
        for each in OF_A_TEXT + [Tied]:
            for other in OF_A_TEXT + [Tied]:
                self.assertEqual(issubclass(each, other), each is other, (each, other))

    def test_names(self):
        for each in OF_A_TEXT + [Tied, WrightError]:
            self.assertIs(getattr(errors, each.__name__), each)

    def test_each_is_made_of_a_text(self):
        for each in OF_A_TEXT + [WrightError]:
            with self.assertRaises(WrightError) as caught:
                raise each("some words")
            self.assertIs(type(caught.exception), each)
            self.assertEqual(str(caught.exception), "some words")

    def test_tied_has_its_move(self):
        with self.assertRaises(WrightError) as caught:
            raise Tied([(0, 1), (-2, 3)])
        self.assertIs(type(caught.exception), Tied)
        self.assertEqual(caught.exception.move, [(0, 1), (-2, 3)])
        self.assertEqual(Tied(move=[1, 0]).move, [1, 0])

    def test_the_move_is_the_errors_own(self):
        move = [1, 0, 6]
        tied = Tied(move)
        move[0] = 5
        move.append(3)
        self.assertEqual(tied.move, [1, 0, 6])
        tied.move.append(2)
        self.assertEqual(move, [5, 0, 6, 3])

    def test_the_move_stands_nowhere_else_in_the_error(self):
        move = [1, 0, 6]
        tied = Tied(move)
        self.assertFalse(any(thing is move for thing in tied.args))
        self.assertIsInstance(str(tied), str)
        self.assertIsInstance(str(Tied([(10 ** 5000, 1)])), str)


if __name__ == "__main__":
    unittest.main()
