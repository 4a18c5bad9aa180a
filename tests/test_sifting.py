"""Sifting held against all places, and all orders, by a plain reckoning."""

import unittest
from itertools import permutations

from knotweb.errors import TooGreat
from knotweb.formulas import NO, YES
from knotweb.webs import Web
from tests.plain import all_rows, chances, name, random_formula
from tests.plainweb import (
    contrary, function_of, many_knots, moved, name_counts, nearest, row_key, rows_by, sifted, sifted_whole,
)

TEN = tuple("abcdefghij")


def drawn_web(chance, order, many, depth):
    """A web of drawn formulas, and their functions."""
    web = Web(order)
    formulas = [random_formula(chance, order, depth) for _ in range(many)]
    for formula in formulas:
        web.make(formula)
    return web, [function_of(formula, order) for formula in formulas]


def ordered(web, order):
    """A copy of a web by another order."""
    other = web.copy()
    other.to_order(order)
    return other


class Counts(unittest.TestCase):
    def test_by_all_orders(self):
        chance = chances(51)
        for _ in range(25):
            order = ("a", "b", "c", "d")
            web, functions = drawn_web(chance, order, chance.randrange(1, 5), 4)
            for other in permutations(order):
                self.assertEqual(web.to_order(other), many_knots(functions, other))
                self.assertEqual(list(web.by_name().items()), list(name_counts(functions, other).items()))


class SiftedAtAName(unittest.TestCase):
    def test_drawn_webs(self):
        chance = chances(52)
        for _ in range(250):
            order = tuple(chance.sample("abcde", chance.choice([1, 2, 3, 4, 5])))
            web, functions = drawn_web(chance, order, chance.randrange(4), chance.choice([3, 5]))
            for which in order:
                other = web.copy()
                expected = sifted(functions, order, which)
                self.assertEqual(other.sift(which), expected.index(which))
                self.assertEqual(other.order(), expected)
                self.assertEqual(other.many(), many_knots(functions, expected))

    def test_the_topmost_of_the_best_places(self):
        web = Web(("c", "a", "b"))
        self.assertEqual(web.sift("b"), 0)
        self.assertEqual(web.order(), ("b", "c", "a"))
        web.make(("and", name("a"), name("b")))
        self.assertEqual(web.sift("a"), 0)
        self.assertEqual(web.sift("c"), 0)
        self.assertEqual(web.order(), ("c", "a", "b"))
        web.make(("if", name("b"), name("c"), name("a")))
        counts = [ordered(web, moved(web.order(), "b", place)).many() for place in range(3)]
        self.assertEqual(web.sift("b"), counts.index(min(counts)))

    def test_handles_of_one_function_and_contrary_ones_count_once(self):
        chance = chances(53)
        for _ in range(40):
            order = ("a", "b", "c", "d")
            web, functions = drawn_web(chance, order, 2, 5)
            for _ in range(3):
                web.again(1)
                web.contrary(2)
            self.assertEqual(web.many(), many_knots(functions, order))
            self.assertEqual(web.copy().sift_all(), sifted_whole(functions, order))
            self.assertEqual(web.sift("d"), sifted(functions, order, "d").index("d"))


class SiftedWhole(unittest.TestCase):
    def test_drawn_webs(self):
        chance = chances(54)
        for _ in range(150):
            order = tuple(chance.sample("abcde", chance.choice([0, 1, 2, 3, 4, 4, 5])))
            if not order:
                self.assertEqual(Web(order).sift_all(), ())
                continue
            web, functions = drawn_web(chance, order, chance.randrange(4), chance.choice([3, 5]))
            expected = sifted_whole(functions, order)
            self.assertEqual(web.sift_all(), expected)
            self.assertEqual(web.order(), expected)
            self.assertEqual(web.many(), many_knots(functions, expected))
            for h, function in enumerate(functions, start=1):
                self.assertEqual(web.rows(h), sorted(function, key=row_key))

    def test_names_without_knots_go_too_the_upper_one_first(self):
        self.assertEqual(Web(("a", "b", "c")).sift_all(), ("c", "b", "a"))
        web = Web(("a", "x", "b", "y"))
        web.make(("and", name("a"), name("b")))
        self.assertEqual(web.sift_all(), ("y", "x", "b", "a"))

    def test_those_with_more_knots_as_they_are_at_the_beginning_first(self):
        # Sifted one behind the other in the order of the names, these come to other orders.
        chance = chances(55)
        unlike = 0
        for _ in range(120):
            order = ("a", "b", "c", "d")
            web, functions = drawn_web(chance, order, 2, 5)
            by_place = order
            for which in order:
                by_place = sifted(functions, by_place, which)
            expected = sifted_whole(functions, order)
            unlike += expected != by_place
            self.assertEqual(web.sift_all(), expected)
        self.assertGreater(unlike, 10)

    def test_for_room_with_the_new_one_counted(self):
        chance = chances(56)
        sifted_for_room = refused = 0
        for _ in range(250):
            order = tuple(chance.sample("abcd", 4))
            web, functions = drawn_web(chance, order, 2, 4)
            web.set_room(web.many() + chance.randrange(3))
            formula = random_formula(chance, order, 5)
            functions.append(function_of(formula, order))
            if many_knots(functions, order) <= web.room():
                continue
            expected = sifted_whole(functions, order)
            many = many_knots(functions, expected)
            if many > web.room():
                refused += 1
                with self.assertRaises(TooGreat) as caught:
                    web.make(formula)
                self.assertEqual(caught.exception.knots, many)
                self.assertEqual((web.order(), web.many()), (order, many_knots(functions[:2], order)))
            else:
                sifted_for_room += 1
                self.assertEqual(web.make(formula), 3)
                self.assertEqual((web.order(), web.many()), (expected, many))
        self.assertGreater(sifted_for_room, 5)
        self.assertGreater(refused, 50)


class TenNames(unittest.TestCase):
    """Webs of ten names, held against the counts by orders asked for, as a plain reckoning would take too long."""

    def best(self, web, which):
        """The order behind sifting, by the counts at all places."""
        orders = [moved(web.order(), which, place) for place in range(10)]
        counts = []
        for order in orders:
            try:
                counts.append(ordered(web, order).many())
            except TooGreat as refusal:
                counts.append(refusal.knots)
        return orders[counts.index(min(counts))], min(counts)

    def test_a_web_of_two_thousand_knots(self):
        chance = chances(57)
        every = all_rows(TEN)
        web = Web(tuple(chance.sample(TEN, 10)))
        with self.assertRaises(TooGreat) as caught:
            while True:
                rows = tuple(row for row in every if chance.random() < 0.5)
                h = web.of_rows(rows)
                self.assertEqual(web.rows(h), list(rows))
        self.assertGreater(caught.exception.knots, 2000)
        self.assertGreater(web.many(), 1500)
        for which in "ahj":
            expected = self.best(web, which)
            web.sift(which)
            self.assertEqual((web.order(), web.many()), expected)
        expected = web.copy()
        counts = web.by_name()
        for which in sorted(counts, key=lambda one: -counts[one]):
            expected.sift(which)
        self.assertEqual(web.sift_all(), expected.order())
        self.assertTrue(web == expected)

    def test_pairs_come_together(self):
        pairs = [("and", name(TEN[at]), name(TEN[at + 5])) for at in range(5)]
        whole = pairs[0]
        for pair in pairs[1:]:
            whole = ("or", whole, pair)
        for room in (2000, 10):
            web = Web(TEN, room=room)
            web.make(whole)
            self.assertEqual(web.many(), 62 if room == 2000 else 10)
            web.sift_all()
            self.assertEqual(web.many(), 10)
            places = {one: place for place, one in enumerate(web.order())}
            self.assertEqual({abs(places[TEN[at]] - places[TEN[at + 5]]) for at in range(5)}, {1})
        with self.assertRaises(TooGreat) as caught:
            Web(TEN, room=9).make(whole)
        self.assertEqual(caught.exception.knots, 10)

    def test_room_for_just_as_many_and_one_fewer(self):
        web = Web(TEN)
        h = web.make(("some", "j", ("and", name("a"), ("or", name("b"), name("j")))))
        many = web.many()
        for room in (many, many + 1):
            other = Web(TEN, room=room)
            self.assertEqual(other.make(web.formula(h)), 1)
        with self.assertRaises(TooGreat) as caught:
            Web(TEN, room=many - 1).make(web.formula(h))
        self.assertEqual(caught.exception.knots, many)


class Within(unittest.TestCase):
    def test_drawn_functions_by_the_nearest_row(self):
        chance = chances(58)
        for _ in range(200):
            order = tuple(chance.sample("abcde", chance.choice([1, 2, 3, 4, 5])))
            rows = rows_by(order)
            f = frozenset(row for row in rows if chance.random() < 0.5)
            c = frozenset(row for row in rows if chance.random() < chance.choice([0.1, 0.5]))
            web = Web(order)
            h, k = web.of_rows(tuple(sorted(f, key=row_key))), web.of_rows(tuple(sorted(c, key=row_key)))
            if c:
                told = web.within(h, k)
                expected = [row for row in rows if nearest(row, c, order) in f]
                self.assertEqual(web.rows(told), expected)
                self.assertTrue(web.implies(web.both(h, k), told))

    def test_all_functions_of_two_names(self):
        rows = rows_by(("a", "b"))
        functions = [frozenset(row for at, row in enumerate(rows) if bits >> at & 1) for bits in range(16)]
        for order in (("a", "b"), ("b", "a")):
            web = Web(order)
            handles = {f: web.of_rows(tuple(sorted(f, key=row_key))) for f in functions}
            for f in functions:
                for c in functions[1:]:
                    told = web.rows(web.within(handles[f], handles[c]))
                    self.assertEqual(told, [row for row in rows if nearest(row, c, order) in f])
                self.assertEqual(web.rows(web.contrary(handles[f])), sorted(contrary(f, order), key=row_key))


class Speed(unittest.TestCase):
    """Small webs are made, changed and asked again and again; this takes long where they take long."""

    def test_many_small_webs(self):
        chance = chances(59)
        names = ("a", "b", "c", "d", "e")
        formulas = [random_formula(chance, names, 4) for _ in range(50)]
        for number in range(400):
            web = Web(names, room=12)
            for _ in range(12):
                try:
                    web.make(chance.choice(formulas))
                except TooGreat:
                    web.let_go(web.handles()[0]) if len(web) else web.sift_all()
                web.sift(chance.choice(names))
                for h in web.handles():
                    web.table(h), web.size(h), web.many(), web.first_row(h), web.is_yes(h, ())

    def test_many_handles_of_a_great_web(self):
        chance = chances(60)
        web = Web(TEN)
        made = 0
        while made < 1500:
            trio = chance.sample(TEN, 3)
            try:
                web.make(random_formula(chance, trio, 3))
            except TooGreat:
                break
            made += 1
        many = web.many()
        web.sift_all()
        self.assertLessEqual(web.many(), many)
        order = web.order()
        self.assertEqual(len(order), 10)
        for h in web.handles()[::2]:
            web.let_go(h)
        self.assertEqual(web.kept() >= web.many(), True)
        web.collect()
        self.assertEqual(web.kept(), web.many())
        self.assertEqual(web.many(), sum(web.by_name().values()))

    def test_yes_and_no_of_ten_names(self):
        web = Web(TEN, room=0)
        self.assertEqual((web.make(YES), web.make(NO)), (1, 2))
        self.assertEqual(web.sift_all(), TEN[::-1])
        self.assertEqual((web.many_rows(1), web.many_rows(2)), (1024, 0))


if __name__ == "__main__":
    unittest.main()
