"""Over the whole program: what its parts tell of the same functions is the same."""

import unittest

from knotweb.covers import cover_of, primes_of
from knotweb.desk import Desk
from knotweb.families import sheet_of
from knotweb.formulas import hangs_on, rows_of
from knotweb.formulatexts import formula_text
from knotweb.leastorders import bounds_of, least_order
from knotweb.machines import never_paper, run_to, so_at
from knotweb.measures import ledger_of, mean_of, numbers_of, share_of, summed
from knotweb.sessions import Session
from knotweb.shelves import Shelf
from knotweb.tables import table_of
from knotweb.tabletexts import read_table, table_text, taken
from knotweb.webs import Web
from tests.plain import chances, random_formula
from tests.test_covers import covered

NAMES = ("a", "b", "c", "d")


class Counted(unittest.TestCase):
    def test_rows_at_which_a_formula_is_yes(self):
        chance = chances(141)
        for _ in range(80):
            formula = random_formula(chance, NAMES, chance.choice([3, 4, 5]))
            order = tuple(chance.sample(NAMES, 4))
            rows = rows_of(formula, order)
            self.assertEqual({len(rows)}, {
                self.by_web(formula, order), self.by_share(formula), self.by_shelf(formula, order),
                self.by_cover(formula),
                self.by_measure(formula, order), self.by_machine(formula), self.by_desk(formula, order),
                self.by_table_text(formula, order),
            })

    def by_web(self, formula, order):
        web = Web(order)
        return web.many_rows(web.make(formula))

    def by_share(self, formula):
        up, down = share_of(formula, {one: (1, 2) for one in NAMES})
        return 16 * up // down

    def by_shelf(self, formula, order):
        shelf = Shelf(order)
        return shelf.count(shelf.make(tuple(rows_of(formula, order))))

    def by_cover(self, formula):
        hung = hangs_on(formula)
        return len(set().union(*(covered(cube, hung) for cube in cover_of(formula)))) * 2 ** (4 - len(hung))

    def by_measure(self, formula, order):
        measure = ("choose", formula, ("number", 1), ("number", 0))
        (word, number), knots = summed(measure, order, order)
        self.assertEqual((word, knots), ("end", ()))
        up, down = mean_of(measure, {one: (1, 2) for one in NAMES})
        self.assertEqual(16 * up, down * number)
        return number

    def by_machine(self, formula):
        machine = (NAMES, ("s", "t", "u", "v"), ("yes",), ("no",))
        states = so_at(machine, ("at", formula))
        run = run_to(machine, formula)
        self.assertEqual(run, (states[0],) if states else None)
        self.assertEqual(never_paper(machine, formula) is None, bool(states))
        return len(states)

    def by_desk(self, formula, order):
        desk = Desk()
        self.assertEqual(desk.say("order " + " ".join(order)), "done")
        self.assertEqual(desk.say("bind f = " + formula_text(formula)), "done")
        rows = rows_of(formula, order)
        self.assertEqual(desk.say("row f"), (" ".join(rows[0]) or "empty") if rows else "none")
        return int(desk.say("count f"))

    def by_table_text(self, formula, order):
        web = Web(NAMES)
        return web.many_rows(taken(web, *read_table(table_text(order, table_of(formula, order)))))


class Alike(unittest.TestCase):
    def test_tables_of_webs_and_sessions_and_desks(self):
        chance = chances(142)
        for _ in range(60):
            formula = random_formula(chance, NAMES, 4)
            order = tuple(chance.sample(NAMES, 4))
            table = table_of(formula, order)
            web, session, desk = Web(order), Session(order), Desk()
            session.do(deeds=(("bind", "f", formula),))
            desk.say("order " + " ".join(order))
            self.assertEqual(web.table(web.make(formula)), table)
            self.assertEqual(session.bound(), {"f": table})
            self.assertEqual(desk.say("show " + formula_text(formula)),
                " ; ".join(table_text(order, table).split("\n")))

    def test_sifted_alike(self):
        chance = chances(143)
        for _ in range(60):
            order = tuple(chance.sample(NAMES, 4))
            web, session = Web(order), Session(order)
            for which in "fgh":
                formula = random_formula(chance, NAMES, 3)
                web.make(formula)
                session.do(deeds=(("bind", which, formula),))
            session.do(deeds=(("sift",),))
            self.assertEqual((web.sift_all(), web.many()), (session.order(), session.many()))

    def test_least_orders_are_no_worse_than_sifted_ones(self):
        chance = chances(144)
        for _ in range(40):
            formula = random_formula(chance, NAMES, 4)
            order, many = least_order(formula)
            self.assertEqual((len(table_of(formula, order)[1]), bounds_of(formula)[-1]),
                (many, (hangs_on(formula), many)))
            web = Web((*order, *(one for one in NAMES if one not in order)))
            web.make(formula)
            self.assertEqual(web.many(), many)
            web.sift_all()
            self.assertEqual(web.many(), many)
            other = Web(tuple(chance.sample(NAMES, 4)))
            other.make(formula)
            other.sift_all()
            self.assertGreaterEqual(other.many(), many)

    def test_sheets_and_ledgers(self):
        chance = chances(145)
        for _ in range(40):
            formula = random_formula(chance, NAMES, 4)
            order = tuple(chance.sample(NAMES, 4))
            shelf = Shelf(order)
            rows = tuple(rows_of(formula, order))
            self.assertEqual(shelf.sheet(shelf.make(rows)), sheet_of(order, rows))
            measure = ("choose", formula, ("number", 1), ("number", 0))
            ends = {number for number in (1, 0) if number in numbers_of(measure)}
            self.assertEqual(ends, ({1} if rows else set()) | ({0} if len(rows) < 16 else set()))
            # A ledger has of contrary knots both.
            self.assertLessEqual(len(table_of(formula, order)[1]), len(ledger_of(measure, order)[1]))
            self.assertEqual(bool(primes_of(formula)), bool(rows))


if __name__ == "__main__":
    unittest.main()
