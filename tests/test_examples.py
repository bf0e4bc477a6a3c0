"""Every example of the document, as it stands there."""

import os
import unittest

from doubtbooks import errors

EXAMPLES = os.path.join(os.path.dirname(os.path.abspath(__file__)), "examples.txt")


def read_examples():
    """Triples (point, code, answer): what is told behind the code, "" if nothing is."""
    examples = []
    point = None
    with open(EXAMPLES, encoding="ascii") as lines:
        for line in lines.read().split("\n"):
            if line.startswith("[") and line.endswith("]") and line[1:2].isupper() and line[2:-1].isdigit():
                point = line[1:-1]
            elif line.startswith(">>> "):
                examples.append((point, line[4:], ""))
            elif line:
                examples[-1] = (point, examples[-1][1], line)
    return examples


class ExamplesTest(unittest.TestCase):

    def check(self, names, code, answer):
        if not answer:
            exec(code, names)
        elif answer.startswith("raises "):
            wanted = eval(answer[len("raises "):], dict(vars(errors)))
            with self.assertRaises(errors.DoubtError) as caught:
                eval(code, names)
            self.assertIs(type(caught.exception), type(wanted))
            self.assertEqual(repr(vars(caught.exception)), repr(vars(wanted)))
        else:
            self.assertEqual(repr(eval(code, names)), answer)

    def test_examples(self):
        names = {}
        examples = read_examples()
        for point, code, answer in examples:
            with self.subTest(point=point, code=code):
                self.check(names, code, answer)

    def test_no_point_is_left_out(self):
        points = [point for point, code, answer in read_examples() if answer]
        counted = {point: points.count(point) for point in points}
        self.assertEqual(counted, {
            "A5": 4, "A6": 3, "A7": 7, "A8": 2, "B4": 3, "B5": 4, "B6": 9, "B7": 6,
            "C2": 2, "C3": 4, "C4": 3, "D2": 5, "D3": 6, "E2": 5, "E3": 4, "F2": 11, "H2": 4, "H3": 2,
            "I2": 3, "I3": 3, "I4": 5, "J2": 2, "J3": 5, "J7": 7, "J8": 4, "K2": 12, "K3": 5, "L1": 7})


if __name__ == "__main__":
    unittest.main()
