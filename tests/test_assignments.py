"""Points 62 and 63: assignments, and the search for consistent ones."""

import inspect
import unittest
from itertools import product

from stylepages.errors import NoAssignment
from stylepages.refs.assignments import Table, all_consistent, assignments, settle

CLASSES = ((1,), (9,), (2, 3), (1, 9), (1, 2, 3), (3, 4, 9))


class Recorder:
    """A setter that keeps what it is called with."""

    def __init__(self, consistent=()):
        self.consistent = consistent
        self.called = []

    def __call__(self, assignment):
        self.called.append(assignment)
        if assignment in self.consistent:
            return ("forms", assignment)
        return ("most", len(self.called))


class AssignmentsTest(unittest.TestCase):
    def test_it_is_a_generator(self):
        self.assertTrue(inspect.isgeneratorfunction(assignments))
        found = assignments(1, (1, 2))
        self.assertEqual(next(found), (0,))
        self.assertEqual(list(found), [(1,), (2,)])

    def test_no_references(self):
        for classes in CLASSES:
            self.assertEqual(list(assignments(0, classes)), [()])

    def test_one_reference(self):
        self.assertEqual(list(assignments(1, (1,))), [(0,), (1,)])
        self.assertEqual(list(assignments(1, (2, 3, 9))), [(0,), (2,), (3,), (9,)])

    def test_two_references(self):
        self.assertEqual(list(assignments(2, (1,))), [(0, 0), (0, 1), (1, 0), (1, 1)])
        self.assertEqual(list(assignments(2, (2, 5))), [
            (0, 0), (0, 2), (0, 5), (2, 0), (2, 2), (2, 5), (5, 0), (5, 2), (5, 5),
        ])

    def test_all_counts(self):
        for count in range(4):
            for classes in CLASSES:
                found = list(assignments(count, classes))
                self.assertEqual(found, sorted(product((0,) + classes, repeat=count)))
                self.assertEqual(len(found), (len(classes) + 1) ** count)


class SettleTest(unittest.TestCase):
    def test_the_first_consistent_one(self):
        setter = Recorder([(2, 2), (1, 2), (2, 0)])
        found = settle(setter, 2, (1, 2))
        self.assertEqual(setter.called, [(0, 0), (0, 1), (0, 2), (1, 0), (1, 1), (1, 2)])
        self.assertEqual(found, ((1, 2), tuple((row, ("most", k)) for k, row in enumerate(setter.called[:-1], 1))))

    def test_the_very_first_one(self):
        setter = Recorder([(0, 0, 0)])
        self.assertEqual(settle(setter, 3, (1, 2)), ((0, 0, 0), ()))
        self.assertEqual(setter.called, [(0, 0, 0)])

    def test_no_references(self):
        self.assertEqual(settle(Recorder([()]), 0, (1,)), ((), ()))
        with self.assertRaises(NoAssignment) as caught:
            settle(Recorder(), 0, (1,))
        self.assertEqual(caught.exception.tried, (((), ("most", 1)),))

    def test_no_assignment(self):
        setter = Recorder()
        with self.assertRaises(NoAssignment) as caught:
            settle(setter, 3, (1, 2, 3))
        everything = list(assignments(3, (1, 2, 3)))
        self.assertEqual(setter.called, everything)
        self.assertEqual(caught.exception.tried, tuple((row, ("most", k)) for k, row in enumerate(everything, 1)))
        self.assertIsInstance(caught.exception.tried, tuple)

    def test_kinds_of_values(self):
        found = settle(Recorder([(1,)]), 1, (1,))
        self.assertIsInstance(found, tuple)
        self.assertIsInstance(found[1], tuple)
        self.assertIsInstance(found[1][0], tuple)

    def test_a_function(self):
        def setter(assignment):
            return ("forms", (1, 2))
        self.assertEqual(settle(setter, 2, (1, 2))[0], (1, 2))
        self.assertEqual(len(settle(setter, 2, (1, 2))[1]), 5)
        self.assertEqual(settle(lambda assignment: ("forms", assignment[::-1]), 2, (1,)), ((0, 0), ()))

    def test_a_method(self):
        self.assertEqual(settle(Recorder([(1,)]).__call__, 1, (1,))[0], (1,))

    def test_only_an_equal_verdict_is_consistent(self):
        for verdict in (("forms", (0, 1)), ("forms",), ("form", (0,)), ("forms", (0,), 1), ("forms", 0), ("none",)):
            self.assertRaises(NoAssignment, settle, lambda row: verdict, 1, (2,))
            self.assertEqual(all_consistent(lambda row: verdict, 1, (2,)), [])


class AllConsistentTest(unittest.TestCase):
    def test_all_of_them(self):
        setter = Recorder([(2, 2), (1, 2), (2, 0)])
        self.assertEqual(all_consistent(setter, 2, (1, 2)), [(1, 2), (2, 0), (2, 2)])
        self.assertEqual(setter.called, list(assignments(2, (1, 2))))

    def test_none_and_every_one(self):
        self.assertEqual(all_consistent(Recorder(), 3, (1, 2, 3)), [])
        everything = list(assignments(3, (1, 2, 3)))
        self.assertEqual(all_consistent(Recorder(everything), 3, (1, 2, 3)), everything)
        self.assertEqual(all_consistent(Recorder([()]), 0, (1,)), [()])

    def test_a_new_list(self):
        setter = Recorder([(1,)])
        all_consistent(setter, 1, (1,)).append("x")
        self.assertEqual(all_consistent(setter, 1, (1,)), [(1,)])


class TableTest(unittest.TestCase):
    def test_verdicts(self):
        table = Table({(0,): ("page", 3), (1,): ("forms", (1,))})
        self.assertEqual(table((0,)), ("page", 3))
        self.assertEqual(table((1,)), ("forms", (1,)))
        self.assertEqual(table((2,)), ("none",))
        self.assertEqual(Table({})(()), ("none",))

    def test_settling(self):
        table = Table({(0, 1): ("page", 3), (1, 1): ("forms", (1, 1)), (1, 0): ("forms", (1, 1))})
        found = settle(table, 2, (1,))
        self.assertEqual(found, ((1, 1), (((0, 0), ("none",)), ((0, 1), ("page", 3)), ((1, 0), ("forms", (1, 1))))))
        self.assertEqual(all_consistent(table, 2, (1,)), [(1, 1)])
        with self.assertRaises(NoAssignment) as caught:
            settle(Table({}), 1, (4, 5))
        self.assertEqual(caught.exception.tried, tuple(((form,), ("none",)) for form in (0, 4, 5)))

    def test_a_dict_that_is_changed_afterwards(self):
        verdicts = {(0,): ("none",), (1,): ("forms", (1,))}
        table = Table(verdicts)
        verdicts[(0,)] = ("forms", (0,))
        verdicts.pop((1,))
        verdicts[(2,)] = ("forms", (2,))
        self.assertEqual(settle(table, 1, (1, 2)), ((1,), (((0,), ("none",)),)))
        self.assertEqual(table((2,)), ("none",))


if __name__ == "__main__":
    unittest.main()
