"""[10]: relations between stores."""

import operator
import random
import unittest

from maskedlevels.errors import BadArgument
from maskedlevels.relations import Relation
from tests.values import odd_values

SIGNS = {"|": operator.or_, "&": operator.and_, "-": operator.sub, "*": operator.mul, "<=": operator.le}
A, B, C, D = (0, 1), (1,), (-1, 10), ()
PAIRS = [(A, B), (B, C), (C, A), (A, C)]


def any_pairs(draw, most=12):
    stores = [(), (0,), (1,), (-1,), (10,), (9,), (0, 0), (1, -2), (12, 3)]
    return [(draw.choice(stores), draw.choice(stores)) for _ in range(draw.randrange(most))]


def is_integers(value):
    return type(value) is tuple and all(type(part) is int for part in value)


def no_stores():
    """Values that are no tuples of integers."""
    return [value for value in odd_values() if not is_integers(value)] + [
        (True,), (0, False), (0, "1"), (0, None), (0.0,), [0, 1], ((0,),), (0, (1,)), "01", range(2),
    ]


def no_pairs():
    """Values that are no pairs of tuples of integers."""
    return odd_values() + no_stores() + [
        (A,), (A, B, C), [A, B], (A, [1]), ([1], A), (A, (True,)), ((0, False), A), (A, 1), (1, A), 1, A, ((), (), ()),
    ]


def reach(pairs, stores):
    """All pairs that are had by any number of pairs, by going on until nothing is new."""
    every = set(stores) | {store for pair in pairs for store in pair}
    found = {(store, store) for store in every}
    while True:
        more = {(a, d) for a, b in found for c, d in pairs if b == c}
        if more <= found:
            return found
        found |= more


class MadeTest(unittest.TestCase):
    def test_of_a_list_and_of_a_tuple_with_doubles_and_with_none(self):
        for pairs in (PAIRS, tuple(PAIRS), PAIRS + PAIRS, tuple(reversed(PAIRS))):
            self.assertEqual(Relation(pairs).pairs(), sorted(PAIRS, key=str))
            self.assertEqual(len(Relation(pairs)), 4)
        for pairs in ([], ()):
            self.assertEqual(Relation(pairs).pairs(), [])
            self.assertEqual(len(Relation(pairs=pairs)), 0)
        self.assertEqual(Relation([(D, D)]).pairs(), [((), ())])

    def test_truth(self):
        self.assertIs(bool(Relation([])), False)
        self.assertIs(bool(Relation(())), False)
        self.assertIs(bool(Relation([(D, D)])), True)
        self.assertIs(bool(Relation(PAIRS)), True)

    def test_what_it_refuses(self):
        for value in odd_values():
            if type(value) not in (list, tuple):
                with self.assertRaises(BadArgument) as caught:
                    Relation(value)
                self.assertIs(caught.exception.value, value)
        for value in ({}, {(A, B): 1}, {(A, B)}, "", iter(PAIRS), Relation(PAIRS)):
            with self.assertRaises(BadArgument) as caught:
                Relation(value)
            self.assertIs(caught.exception.value, value)

    def test_the_first_wrong_pair_is_told(self):
        for value in no_pairs():
            for pairs in ([value], (value,), [(A, B), value], [(A, B), value, (A, B), None, (B,)]):
                with self.assertRaises(BadArgument) as caught:
                    Relation(pairs)
                self.assertIs(caught.exception.value, value)

    def test_what_was_given_can_be_changed_later(self):
        pairs = list(PAIRS)
        relation = Relation(pairs)
        pairs.append((D, D))
        pairs.remove((A, B))
        self.assertEqual(relation, Relation(PAIRS))
        self.assertEqual(relation(A), [C, B])

    def test_what_is_told_can_be_changed(self):
        relation = Relation(PAIRS)
        for told in (relation.pairs, relation.stores, lambda: relation(A), lambda: relation.closed([D]).pairs()):
            before = list(told())
            told().append(D)
            told().clear()
            self.assertEqual(told(), before)
        self.assertEqual(relation, Relation(PAIRS))


class ToldTest(unittest.TestCase):
    def test_texts_tell_the_order(self):
        stores = [(10,), (9,), (1,), (1, 2), (-1,), (0, -3), (0, 3), (0, 10), (0, 9), ()]
        relation = Relation([(store, other) for store in stores for other in stores])
        order = [(), (-1,), (0, -3), (0, 10), (0, 3), (0, 9), (1, 2), (1,), (10,), (9,)]
        self.assertEqual(relation.stores(), order)
        self.assertEqual(relation((9,)), order)
        self.assertEqual(relation.pairs(), sorted([(one, two) for one in order for two in order], key=str))
        self.assertNotEqual(relation.pairs(), sorted(relation.pairs()))
        pairs = Relation([((10,), (1,)), ((1, 2), (1,)), ((-1,), (9,)), ((1,), (1,))]).pairs()
        self.assertEqual(pairs, [((-1,), (9,)), ((1, 2), (1,)), ((1,), (1,)), ((10,), (1,))])

    def test_stores(self):
        self.assertEqual(Relation([]).stores(), [])
        self.assertEqual(Relation([(A, B)]).stores(), [A, B])
        self.assertEqual(Relation([(B, A), (B, B)]).stores(), [A, B])
        self.assertEqual(Relation(PAIRS).stores(), [C, A, B])

    def test_call(self):
        relation = Relation(PAIRS + PAIRS)
        self.assertEqual([relation(store) for store in (A, B, C, D)], [[C, B], [C], [A], []])
        self.assertEqual(relation(store=A), [C, B])
        for value in no_stores():
            with self.assertRaises(BadArgument) as caught:
                relation(value)
            self.assertIs(caught.exception.value, value)

    def test_in(self):
        relation = Relation(PAIRS)
        for pair in PAIRS:
            self.assertIs(pair in relation, True)
        for pair in [(B, A), (A, A), (D, D), (A, (1, 1)), ((0, 1, 0), B)]:
            self.assertIs(pair in relation, False)
        for value in no_pairs():
            self.assertIs(value in relation, False)
        self.assertIs(((0, 1), (1,)) in relation, True)
        self.assertIs(((0, True), (1,)) in relation, False)
        self.assertIs(((False, 1), (1.0,)) in relation, False)
        self.assertIs((D, D) in Relation([]), False)

    def test_length(self):
        self.assertEqual([len(Relation([(A, B)] * many)) for many in range(3)], [0, 1, 1])
        self.assertEqual(len(Relation(PAIRS)), 4)


class SignsTest(unittest.TestCase):
    def test_all_signs_for_many_relations(self):
        for seed in range(300):
            draw = random.Random(seed)
            one, other = any_pairs(draw), any_pairs(draw)
            first, second = Relation(one), Relation(other)
            self.assertEqual((first | second).pairs(), sorted(set(one) | set(other), key=str))
            self.assertEqual((first & second).pairs(), sorted(set(one) & set(other), key=str))
            self.assertEqual((first - second).pairs(), sorted(set(one) - set(other), key=str))
            chained = {(a, d) for a, b in one for c, d in other if b == c}
            self.assertEqual((first * second).pairs(), sorted(chained, key=str))
            self.assertEqual(first.turned().pairs(), sorted({(b, a) for a, b in one}, key=str))
            self.assertIs(first <= second, set(one) <= set(other))
            self.assertIs(first & second <= second, True)
            self.assertIs(first == second, set(one) == set(other))
            self.assertIs(first != second, set(one) != set(other))
            self.assertIs(bool(first), bool(one))
            self.assertEqual(first.pairs(), sorted(set(one), key=str))
            self.assertEqual(second.pairs(), sorted(set(other), key=str))
            for store in [(), (0,), (10,), (1, -2), (7,)]:
                self.assertEqual(first(store), sorted({b for a, b in one if a == store}, key=str))

    def test_the_order_of_a_product_counts(self):
        one, other = Relation([(A, B)]), Relation([(B, C)])
        self.assertEqual((one * other).pairs(), [(A, C)])
        self.assertEqual((other * one).pairs(), [])
        self.assertEqual((one - other).pairs(), [(A, B)])
        self.assertIs(Relation([]) <= one, True)
        self.assertIs(one <= Relation([]), False)
        self.assertIs(one <= one, True)

    def test_any_other_object_behind_a_sign(self):
        for value in odd_values() + [PAIRS, tuple(PAIRS), Relation, {(A, B): True}, {(A, B)}]:
            for sign, made in SIGNS.items():
                for pairs in (PAIRS, []):
                    with self.subTest(sign=sign):
                        with self.assertRaises(BadArgument) as caught:
                            made(Relation(pairs), value)
                        self.assertIs(caught.exception.value, value)

    def test_equal(self):
        relation = Relation(PAIRS)
        self.assertIs(relation == Relation(tuple(reversed(PAIRS)) + (PAIRS[0],)), True)
        self.assertIs(relation != Relation(PAIRS), False)
        self.assertIs(relation == Relation(PAIRS[1:]), False)
        self.assertIs(relation != Relation(PAIRS[1:]), True)
        self.assertIs(Relation([]) == Relation(()), True)
        for value in odd_values() + [PAIRS, tuple(PAIRS), relation.pairs()]:
            self.assertIs(relation == value, False)
            self.assertIs(relation != value, True)
            self.assertIs(Relation([]) == value, False)

    def test_no_sign_changes_its_relations(self):
        one, other = Relation(PAIRS), Relation([(D, A), (A, B)])
        for made in SIGNS.values():
            made(one, other)
        one.turned()
        one.closed([D])
        self.assertEqual((one, other), (Relation(PAIRS), Relation([(D, A), (A, B)])))
        self.assertEqual(one(A), [C, B])


class ClosedTest(unittest.TestCase):
    def test_closed(self):
        self.assertEqual(Relation([]).closed(), Relation([]))
        self.assertEqual(Relation([]).closed([A, A, D]), Relation([(A, A), (D, D)]))
        self.assertEqual(Relation([(A, B)]).closed(), Relation([(A, A), (A, B), (B, B)]))
        self.assertEqual(Relation([(A, B)]).closed(stores=(C,)), Relation([(A, A), (A, B), (B, B), (C, C)]))
        ring = Relation([(A, B), (B, C), (C, A)]).closed()
        self.assertEqual(ring, Relation([(one, other) for one in (A, B, C) for other in (A, B, C)]))
        steps = [((at,), (at + 1,)) for at in range(20)]
        self.assertEqual(len(Relation(steps).closed()), 231)

    def test_closed_for_many_relations(self):
        for seed in range(200):
            draw = random.Random(seed)
            pairs = any_pairs(draw)
            stores = [draw.choice([(), (0,), (7,), (8, -1)]) for _ in range(draw.randrange(4))]
            for given in (stores, tuple(stores)):
                self.assertEqual(Relation(pairs).closed(given).pairs(), sorted(reach(pairs, stores), key=str))
            self.assertEqual(Relation(pairs).closed().pairs(), sorted(reach(pairs, []), key=str))

    def test_same(self):
        self.assertEqual(Relation.same([]), Relation([]))
        self.assertEqual(Relation.same(stores=(A, B, A)), Relation([(A, A), (B, B)]))
        self.assertEqual(Relation([(A, B)]).same([D]).pairs(), [((), ())])
        relation = Relation(PAIRS)
        self.assertEqual(Relation.same(relation.stores()) * relation, relation)
        self.assertEqual(relation * Relation.same(relation.stores()), relation)

    def test_what_they_refuse(self):
        for told in (Relation(PAIRS).closed, Relation([]).closed, Relation.same):
            for value in odd_values() + ["", {}, {A}, {A: B}, Relation(PAIRS), iter([A])]:
                if type(value) not in (list, tuple):
                    with self.assertRaises(BadArgument) as caught:
                        told(value)
                    self.assertIs(caught.exception.value, value)
            for value in no_stores():
                for stores in ([value], (value,), [A, value, None, (True,)]):
                    with self.assertRaises(BadArgument) as caught:
                        told(stores)
                    self.assertIs(caught.exception.value, value)
        with self.assertRaises(BadArgument) as caught:
            Relation(PAIRS).closed(None)
        self.assertIsNone(caught.exception.value)


if __name__ == "__main__":
    unittest.main()
