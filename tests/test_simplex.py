import unittest
from fractions import Fraction
from random import Random

from outcomepay.simplex import cheapest
from tests.model import exact, pair


def fractions(numbers):
    return [pair(Fraction(number)) for number in numbers]


class Cheapest(unittest.TestCase):
    def check(self, costs, rows, needs):
        """Checks the answer by what it says of itself; returns the cost, None if there is none."""
        amounts, weights = cheapest(fractions(costs), [fractions(row) for row in rows], fractions(needs))
        weights = [exact(weight) for weight in weights]
        self.assertEqual(len(weights), len(rows))
        self.assertGreaterEqual(min(weights), 0)
        reached = sum(weight * need for weight, need in zip(weights, needs))
        sums = [sum(weight * row[k] for weight, row in zip(weights, rows)) for k in range(len(costs))]
        if amounts is None:
            self.assertLessEqual(max(sums), 0)
            self.assertGreater(reached, 0)
            return None
        amounts = [exact(amount) for amount in amounts]
        self.assertGreaterEqual(min(amounts), 0)
        self.assertTrue(all(part <= cost for part, cost in zip(sums, costs)))
        for row, need in zip(rows, needs):
            self.assertGreaterEqual(sum(entry * amount for entry, amount in zip(row, amounts)), need)
        self.assertEqual(reached, sum(cost * amount for cost, amount in zip(costs, amounts)))
        return reached

    def test_known_costs(self):
        self.assertEqual(self.check([2, 3], [[1, 1], [1, 2]], [4, 6]), 10)
        self.assertEqual(self.check([2, 3], [[1, 1]], [-4]), 0)
        self.assertIsNone(self.check([1, 1], [[1, -1], [-1, 1]], [1, 1]))
        self.assertIsNone(self.check([0], [[0]], [1]))

    def test_a_walk_that_could_go_in_a_circle(self):
        rows = [[Fraction(1, 4), Fraction(1, 2), 0], [-60, -90, 0], [Fraction(-1, 25), Fraction(-1, 50), 1], [9, 3, 0]]
        needs = [Fraction(3, 4), -150, Fraction(1, 50), -6]
        self.assertEqual(self.check([0, 0, 1], rows, needs), Fraction(1, 20))

    def test_many(self):
        luck = Random(8)
        found = []
        for _ in range(600):
            many, most = luck.randint(1, 6), luck.choice((1, 3))
            costs = [luck.choice((0, 0, 1, Fraction(1, 2), 3)) for _ in range(many)]
            rows = [[luck.randint(-most, most) for _ in costs] for _ in range(luck.randint(1, 8))]
            found.append(self.check(costs, rows, [luck.randint(-3, 3) for _ in rows]))
        self.assertGreater(found.count(None), 50)
        self.assertGreater(len([cost for cost in found if cost]), 50)


if __name__ == "__main__":
    unittest.main()
