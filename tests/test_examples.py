"""The examples of the document, word for word."""

import doctest
import unittest

EXAMPLES = {
    "jobs": """
>>> from outcomepay.jobs import Job, gain, profit, wanted
>>> job = Job((0, 10), ((0, (3, 1)), (2, (1, 1)), (5, (1, 3))))
>>> pay = ((0, 1), (12, 1))
>>> [[gain(job, work, pay) for work in range(3)], profit(job, 2, pay), wanted(job, pay), wanted(job, ((0, 1), (0, 1)))]
[[(3, 1), (4, 1), (4, 1)], (-3, 2), [1, 2], [None, 0]]
""",
    "pays": """
>>> from outcomepay.jobs import Job
>>> from outcomepay.pays import Barred, Enough, least_pay, pay_cost
>>> job = Job((0, 10), ((0, (3, 1)), (2, (1, 1)), (5, (1, 3))))
>>> mixed = Job((0, 5, 9), ((3, (1, 2, 1)), (1, (1, 1, 0)), (2, (0, 1, 1))))
>>> pay = ((0, 1), (12, 1))
>>> shown = [Enough(pay, {1: (3, 1)}).shows(job, 2), Enough(pay, {1: (2, 1)}).shows(job, 2), Barred({1: (1, 2), 2: (1, 2)}).shows(mixed, 0), Barred({2: (1, 1)}).shows(mixed, 0), Barred({2: (1, 1)}).shows(mixed, 0, rising=True)]
>>> [[pay_cost(job, work) for work in range(3)], least_pay(job, 2).pay, shown, pay_cost(mixed, 0), [pay_cost(mixed, work, rising=True) for work in range(3)]]
[[(0, 1), (4, 1), (9, 1)], ((0, 1), (12, 1)), [True, False, True, False, True], None, [None, (1, 1), (2, 1)]]
""",
}


class Examples(unittest.TestCase):
    def test_examples(self):
        for name, text in EXAMPLES.items():
            with self.subTest(name):
                test = doctest.DocTestParser().get_doctest(text, {}, name, None, 0)
                told = []
                result = doctest.DocTestRunner(verbose=False).run(test, out=told.append)
                self.assertEqual(result.failed, 0, "".join(told))
                self.assertGreater(result.attempted, 0)


if __name__ == "__main__":
    unittest.main()
