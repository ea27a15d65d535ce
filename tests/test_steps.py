import unittest

from stamprules.errors import BadStep
from stamprules.runs import fault, play
from tests.helpers import COMMIT, PUT, book_of, read

MOST = 10 ** 30
GOOD = [("write", 1, "x"), ("commit", 1), ("read", 2, "x"), ("abort", 3)]
WRONG = [
    (), ("read",), ("commit",), ("read", 1), ("write", 1), ("read", 1, "x", 1), ("commit", 1, "x"), ("abort", 1, "x"),
    ("commit", 1, None),
    ("look", 1, "x"), ("end", 1), ("Read", 1, "x"), ("COMMIT", 1), ("", 1), ("r", 1, "x"), (None, 1), (1, 1, "x"),
    ("read ", 1, "x"), ("void", 1), ("wait", 1), (["read"], 1, "x"),
    ("read", 0, "x"), ("write", -1, "x"), ("commit", 0), ("abort", -5), ("read", MOST + 1, "x"), ("commit", MOST + 1),
    ("abort", 10 ** 6000), ("read", True, "x"), ("commit", True), ("abort", False), ("write", "1", "x"),
    ("commit", "1"), ("read", None, "x"), ("commit", None), ("commit", (1,)), ("write", b"1", "x"),
    ("read", 1, ""), ("write", 1, "abcdefghi"), ("read", 1, "X"), ("read", 1, "aB"), ("write", 1, "a b"),
    ("write", 1, " "), ("read", 1, "x "), ("read", 1, "a-b"), ("read", 1, "a_b"), ("write", 1, "x\n"),
    ("write", 1, "\u00e9"), ("write", 1, "\u0663"), ("write", 1, "\u00b2"), ("read", 1, None), ("read", 1, 1),
    ("read", 1, True), ("read", 1, b"x"), ("read", 1, ("x",)), ("write", 1, ["x"]),
    ["read", 1, "x"], ["commit", 1], "read", "c1", None, 1, True, {}, {"commit": 1},
]


class Steps(unittest.TestCase):
    def test_wrong_parts(self):
        for ask in (play, fault):
            for number, part in enumerate(WRONG):
                for ahead in range(len(GOOD) + 1):
                    with self.subTest(f"{ask.__name__}: part {number} behind {ahead}"):
                        with self.assertRaises(BadStep) as caught:
                            ask(book_of(), GOOD[:ahead] + [part] + GOOD)
                        self.assertEqual(caught.exception.index, ahead)

    def test_first_wrong_part_counts(self):
        for ask in (play, fault):
            with self.assertRaises(BadStep) as caught:
                ask(book_of(), [*GOOD, ("commit", 0), None, *GOOD, ()])
            self.assertEqual(caught.exception.index, len(GOOD))

    def test_wrong_part_behind_a_fault(self):
        book = book_of({"write late": "skip", "read late": "last"})
        run = [("write", 2, "x"), ("commit", 2), ("read", 1, "x"), ("commit", 1), ("commit", 0)]
        self.assertEqual(fault(book, run[:-1]), 4)
        with self.assertRaises(BadStep) as caught:
            fault(book, run)
        self.assertEqual(caught.exception.index, 4)

    def test_edges_of_what_is_a_step(self):
        names = ["a", "z", "0", "9", "abcdefgh", "12345678", "x0y9"]
        for name in names:
            run = [("write", MOST, name), ("read", 1, name), ("commit", 1), ("commit", MOST)]
            self.assertEqual(play(book_of({"read below": "last"}), run),
                             [PUT, read(0, "read below"), COMMIT, COMMIT])

    def test_no_steps(self):
        self.assertEqual(play(book_of(), []), [])
        self.assertIsNone(fault(book_of(), []))


if __name__ == "__main__":
    unittest.main()
