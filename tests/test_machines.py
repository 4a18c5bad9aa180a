import unittest
from itertools import product

from knotweb.errors import BadFamily, BadFormula, BadMachine, BadPaper, BadQuestion, BadSaying
from knotweb.families import need_family
from knotweb.formulas import NO, YES
from knotweb.formulatexts import read_formula
from knotweb.machines import (
    after, ahead, layers, need_machine, need_never, need_run, need_saying, never_paper, rounds_of, run_to, so_at,
)
from tests.plain import chances, deep, doubled, name, nothings, random_formula
from tests.plainmachine import PlainMachine, in_order, machine_refusal
from tests.plainweb import family_refusal, rows_by
from tests.refusing import Refusing

A, B = name("a"), name("b")
AB, XY = ("a", "b"), ("x", "y")
ABCDE, VWXYZ = tuple("abcde"), tuple("vwxyz")

# a and b count up from none, b faster: () to (b), (b) to (a), (a) to (a, b), and there it stays.
COUNTING = (AB, XY, read_formula("!a & !b"), read_formula("a & b ? x & y : !(y ^ !b) & !(x ^ (a ^ b))"))


def machine_by(pairs, first, names=AB, nexts=XY):
    """The machine of just these steps, pairs of states, and these first ones."""
    def at(state, its):
        whole = YES
        for name_of, one in zip(names, its):
            part = name(one) if name_of in state else ("not", name(one))
            whole = part if whole == YES else ("and", whole, part)
        return whole

    def one_of(parts):
        whole = NO
        for part in parts:
            whole = part if whole == NO else ("or", part, whole) if len(parts) < 4 else ("or", whole, part)
        return whole

    step = one_of([("and", at(one, names), at(other, nexts)) for one, other in pairs])
    return (names, nexts, one_of([at(state, names) for state in first]), step)


def random_machine(chance, many):
    names = tuple(chance.sample("abcdefgh", many))
    nexts = tuple(chance.sample("stuvwxyz", many))
    first = random_formula(chance, names, chance.choice([2, 4]))
    step = random_formula(chance, names + nexts, chance.choice([2, 3, 4, 5]))
    return (names, nexts, first, step)


def random_saying(chance, names, depth):
    if depth == 0 or chance.random() < 0.1:
        return ("at", random_formula(chance, names, 2))
    word = chance.choice(["not", "and", "next", "until", "always"])
    return (word, *[random_saying(chance, names, depth - 1) for _ in range({"and": 2, "until": 2}.get(word, 1))])


class NeedMachine(Refusing):
    def test_machines_are_told_themselves(self):
        for thing in [
            COUNTING, (("a",), ("b",), YES, NO), (("b",), ("a",), name("b"), ("xor", A, B)),
            (ABCDE, VWXYZ, read_formula("a | e"), read_formula("a ^ v ^ z")),
            (("word",), ("some",), NO, ("some", "word", YES)),
        ]:
            self.assertIs(need_machine(thing), thing)

    def test_refused(self):
        fine = (AB, XY, A, name("x"))
        for thing, place in [
            (5, ()), (None, ()), ((), ()), (fine[:3], ()), ((*fine, A), ()), (list(fine), ()), ("abcd", ()),
            ((AB, XY, 5, 5), ("first", ())), ((5, 5, 5, 5), ("names",)), (((), (), YES, YES), ("names",)),
            ((list(AB), XY, A, A), ("names",)), ((AB, list(XY), A, A), ("names",)), ((AB, ("x",), A, A), ("names",)),
            ((("a",), XY, A, A), ("names",)), ((("a", "a"), XY, A, A), ("names",)),
            ((AB, ("x", "a"), A, A), ("names",)),
            ((AB, ("x", "x"), A, A), ("names",)), ((("a", "B"), XY, A, A), ("names",)),
            ((AB, ("x", ""), A, A), ("names",)),
            ((("a", 5), XY, A, A), ("names",)), ((("a", ["b"]), XY, A, A), ("names",)),
            ((AB, (("x",), "y"), A, A), ("names",)),
            ((ABCDE + ("f",), VWXYZ + ("u",), A, A), ("names",)), (("ab", "xy", A, A), ("names",)),
            ((AB, XY, ("not", 5), 5), ("first", (0,))), ((AB, XY, A, ("and", A, ("not", 5))), ("step", (1, 0))),
            ((AB, XY, name("z"), 5), ("step", ())), ((AB, XY, ("and", A, name("x")), name("z")), ("first", "x")),
            ((AB, XY, ("some", "z", name("x")), A), ("first", "z")),
            ((AB, XY, A, ("or", name("q"), name("p"))), ("step", "q")),
            ((AB, XY, name("y"), name("z")), ("first", "y")), ((AB, XY, A, ("put", "z", A, A)), ("step", "z")),
        ]:
            with self.subTest(thing=thing):
                self.assertEqual(machine_refusal(thing), place)
                self.assert_place(BadMachine, place, need_machine, thing)

    def test_five_names_and_six(self):
        self.assertIsNotNone(need_machine((ABCDE, VWXYZ, YES, YES)))
        self.assert_place(BadMachine, ("names",), need_machine, (tuple("abcdef"), tuple("uvwxyz"), YES, YES))

    def test_all_refuse_so_ahead_of_all_else(self):
        for call, more in [
            (after, (5,)), (ahead, (5,)), (layers, ()), (run_to, (5,)), (need_run, (5, 5)), (never_paper, (5,)),
            (need_never, (5, 5)), (need_saying, (5,)), (so_at, (5,)), (rounds_of, (5,)), (need_machine, ()),
        ]:
            self.assert_place(BadMachine, ("first", "x"), call, (AB, XY, name("x"), YES), *more)
            for kind, thing in nothings():
                with self.subTest(kind, call=call.__name__):
                    self.assert_place(BadMachine, machine_refusal(thing), call, thing, *more)
                    self.assert_place(BadMachine, ("names",), call, (thing, thing, 5, 5), *more)
                    self.assert_place(BadMachine, ("names",), call, (("a", thing), XY, 5, 5), *more)
                    self.refused(BadMachine, call, (AB, XY, thing, 5), *more)
                    self.refused(BadMachine, call, (AB, XY, A, thing), *more)
        for kind, thing in nothings():
            for at, word in ((2, "first"), (3, "step")):
                machine = list(COUNTING)
                machine[at] = thing
                self.assertEqual(machine_refusal(tuple(machine))[0], word)
                self.assert_place(BadMachine, machine_refusal(tuple(machine)), need_machine, tuple(machine))


class Walked(Refusing):
    def test_by_hand(self):
        none, a, b, ab = (), ("a",), ("b",), ("a", "b")
        self.assertEqual(after(COUNTING, (none,)), (b,))
        self.assertEqual(after(COUNTING, (none, a)), (b, ab))
        self.assertEqual(after(COUNTING, ()), ())
        self.assertEqual(ahead(COUNTING, (ab,)), (a, ab))
        self.assertEqual(ahead(COUNTING, (none,)), ())
        self.assertEqual(layers(COUNTING), ((none,), (b,), (a,), (ab,)))
        self.assertEqual(run_to(COUNTING, ("and", A, B)), (none, b, a, ab))
        self.assertEqual(run_to(COUNTING, A), (none, b, a))
        self.assertEqual(run_to(COUNTING, YES), (none,))
        self.assertIsNone(run_to(COUNTING, NO))
        self.assertIsNone(never_paper(COUNTING, A))
        self.assertEqual(never_paper(COUNTING, NO), (none, a, b, ab))

    def test_without_first_ones_and_without_steps(self):
        nothing = (AB, XY, NO, YES)
        self.assertEqual(layers(nothing), ((),))
        self.assertIsNone(run_to(nothing, YES))
        self.assertEqual(never_paper(nothing, YES), ())
        self.assertEqual(need_never(nothing, YES, ()), ())
        still = (AB, XY, A, NO)
        self.assertEqual(layers(still), ((("a",), ("a", "b")),))
        self.assertEqual(run_to(still, B), (("a", "b"),))
        self.assertEqual(never_paper(still, ("not", A)), (("a",), ("a", "b")))
        self.assertEqual(after(still, (("a",),)), ())

    def test_states_stand_in_rows_order_and_names_rise_by_letters(self):
        machine = (("c", "a", "b"), ("x", "y", "z"), YES, read_formula("!(x ^ c) & !(y ^ a) & !(z ^ b)"))
        every = rows_by(("a", "b", "c"))
        self.assertEqual(layers(machine), (every,))
        self.assertEqual(after(machine, every), every)
        for state in every:
            self.assertEqual(after(machine, (state,)), (state,))
            self.assertEqual(ahead(machine, (state,)), (state,))

    def test_nexts_go_by_their_places(self):
        machine = (("b", "a"), ("x", "y"), NO, read_formula("x & !y"))
        self.assertEqual(after(machine, ((),)), (("b",),))
        machine = (("a", "b"), ("y", "x"), NO, read_formula("x & !y"))
        self.assertEqual(after(machine, ((),)), (("b",),))

    def test_the_first_of_the_shortest_runs(self):
        # Two ways of like length; the first by rows' order goes by () and then by (b), not by (a).
        pairs = [((), ("b",)), ((), ("a",)), (("b",), ("a", "b")), (("a",), ("a", "b"))]
        machine = machine_by(pairs, [()])
        self.assertEqual(run_to(machine, ("and", A, B)), ((), ("a",), ("a", "b")))
        machine = machine_by([pair for pair in pairs if pair != (("a",), ("a", "b"))], [()])
        self.assertEqual(run_to(machine, ("and", A, B)), ((), ("b",), ("a", "b")))
        # The first one counts ahead of all that come later.
        machine = machine_by([(("a",), ("b",)), ((), ("a", "b"))], [(), ("a",)])
        self.assertEqual(run_to(machine, B), ((), ("a", "b")))

    def test_drawn_machines(self):
        chance = chances(91)
        runs = papers = 0
        for _ in range(300):
            machine = random_machine(chance, chance.choice([1, 2, 2, 3, 3]))
            plain = PlainMachine(machine)
            self.assertEqual(layers(machine), tuple(map(in_order, plain.layers())))
            for _ in range(3):
                some = tuple(state for state in plain.states if chance.random() < 0.4)
                self.assertEqual(after(machine, some), in_order(plain.after(some)))
                self.assertEqual(ahead(machine, some), in_order(plain.ahead(some)))
                self.assertIsNotNone(need_family(machine[0], after(machine, some)))
                formula = random_formula(chance, machine[0], 2)
                run, paper = run_to(machine, formula), never_paper(machine, formula)
                self.assertEqual(run, plain.run_to(formula))
                self.assertEqual(paper, None if run else in_order(plain.met()))
                if run:
                    runs += 1
                    self.assertIs(need_run(machine, formula, run), run)
                else:
                    papers += 1
                    self.assertIs(need_never(machine, formula, paper), paper)
        self.assertGreater(runs, 100)
        self.assertGreater(papers, 100)

    def test_machines_of_five_names(self):
        chance = chances(92)
        for _ in range(6):
            machine = random_machine(chance, 5)
            plain = PlainMachine(machine)
            self.assertEqual(layers(machine), tuple(map(in_order, plain.layers())))
            some = tuple(state for state in plain.states if chance.random() < 0.3)
            self.assertEqual(after(machine, some), in_order(plain.after(some)))
            self.assertEqual(ahead(machine, some), in_order(plain.ahead(some)))
        # A counter of five names goes through all 32 states, one by one.
        lowest, nexts = "edcba", "zyxwv"
        parts, carry = [], "1"
        for one, its in zip(lowest, nexts):
            parts.append(f"!({its} ^ {one} ^ {carry})")
            carry = f"{carry} & {one}" if carry != "1" else one
        machine = (ABCDE, VWXYZ, read_formula("!(a | b | c | d | e)"), read_formula(" & ".join(parts)))
        self.assertEqual([len(layer) for layer in layers(machine)], [1] * 32)
        self.assertEqual(len(run_to(machine, read_formula("a & b & c & d & e"))), 32)
        self.assertEqual(so_at(machine, ("always", ("at", YES))), rows_by(ABCDE))
        self.assertEqual(len(rounds_of(machine, ("until", ("at", YES), ("at", read_formula("a & b & c & d & e"))))), 32)

    def test_states_that_are_none(self):
        for call in (after, ahead):
            for thing, place in [
                (None, ()), ([], ()), (("a",), (0,)), (((), ()), (1,)), ((("a",), ()), (1,)), ((("x",),), (0,)),
                ((("b", "a"),), (0,)), (((), 5), (1,)), ((("b",), ("a",)), (1,)), ((["a"],), (0,)),
            ]:
                self.assert_place(BadFamily, place, call, COUNTING, thing)
            for kind, thing in nothings():
                with self.subTest(kind):
                    place = family_refusal(AB, thing)
                    if place is not None:
                        self.assert_place(BadFamily, place, call, COUNTING, thing)
                    self.assert_place(BadFamily, (1,), call, COUNTING, ((), thing))

    def test_formulas_that_are_none(self):
        for call, more in ((run_to, ()), (never_paper, ()), (need_run, (5,)), (need_never, (5,))):
            self.assert_place(BadFormula, (0,), call, COUNTING, ("not", 5), *more)
            self.assert_lacks("x", call, COUNTING, ("and", ("or", name("x"), A), name("z")), *more)
            self.assert_lacks("z", call, COUNTING, ("some", "z", name("x")), *more)
            for kind, thing in nothings():
                with self.subTest(kind):
                    self.refused(BadFormula, call, COUNTING, thing, *more)


class Papers(Refusing):
    def test_runs_by_hand(self):
        none, a, b, ab = (), ("a",), ("b",), ("a", "b")
        for thing, place in [
            ((), ()), ([none], ()), (None, ()), ("a", ()), ((5,), (0,)), ((a,), (0,)), ((none, a), (1,)),
            ((none, b, b), (2,)), ((none, b, a, 5), (3,)), ((none, b, a, ["a", "b"]), (3,)),
            ((none, b, ("b", "a")), (2,)),
            ((none, b), ("end",)), ((none,), ("end",)), ((none, b, ("x",)), (2,)), ((none, b, a, ab, none), (4,)),
        ]:
            with self.subTest(thing=thing):
                self.assertEqual(PlainMachine(COUNTING).run_refusal(A, thing), place)
                self.assert_place(BadPaper, place, need_run, COUNTING, A, thing)
        for thing in [(none, b, a), (none, b, a, ab), (none, b, a, ab, ab, ab)]:
            self.assertIs(need_run(COUNTING, A, thing), thing)
        long = (none, b, a) + (ab,) * 3000
        self.assertIs(need_run(COUNTING, A, long), long)

    def test_nevers_by_hand(self):
        none, a, b, ab = (), ("a",), ("b",), ("a", "b")
        for thing, place in [
            (None, ()), ([none], ()), ((none, none), ()), ((b, a), ()), ((5,), ()), (((none,),), ()), ((("x",),), ()),
            ((), ("first", none)), ((ab,), ("first", none)), ((none,), ("after", none, b)),
            ((none, a), ("after", none, b)),
            ((none, b), ("after", b, a)), ((none, a, b), ("after", a, ab)), ((none, a, b, ab), ("yes", a)),
        ]:
            with self.subTest(thing=thing):
                self.assertEqual(PlainMachine(COUNTING).never_refusal(A, thing), place)
                self.assert_place(BadPaper, place, need_never, COUNTING, A, thing)
        machine = machine_by([((), ()), (("b",), ("a",)), (("a",), ())], [()])
        for thing in [(none,), (none, a), (none, a, b)]:
            self.assertIs(need_never(machine, ("and", A, B), thing), thing)
        self.assert_place(BadPaper, ("after", b, a), need_never, machine, ("and", A, B), (none, b))
        self.assert_place(BadPaper, ("yes", ab), need_never, machine, ("and", A, B), (none, ab))

    def test_drawn_papers(self):
        chance = chances(93)
        fine = [0, 0]
        for _ in range(400):
            machine = random_machine(chance, chance.choice([1, 2, 2]))
            plain = PlainMachine(machine)
            formula = random_formula(chance, machine[0], 2)
            states = [*plain.states, *plain.states, ("z",), 5]
            run = tuple(chance.choice(in_order(plain.first) or states) if at == 0 else chance.choice(states)
                        for at in range(chance.choice([1, 1, 2, 3])))
            some = tuple(state for state in plain.states if chance.random() < 0.8)
            for at, (call, its, place) in enumerate([
                (need_run, run, plain.run_refusal(formula, run)),
                (need_never, some, plain.never_refusal(formula, some)),
            ]):
                if place is None:
                    fine[at] += 1
                    self.assertIs(call(machine, formula, its), its)
                else:
                    self.assert_place(BadPaper, place, call, machine, formula, its)
        self.assertGreater(min(fine), 30)

    def test_anything_is_refused(self):
        plain = PlainMachine(COUNTING)
        for kind, thing in nothings():
            with self.subTest(kind):
                self.assert_place(BadPaper, plain.run_refusal(A, thing), need_run, COUNTING, A, thing)
                self.assert_place(BadPaper, (1,), need_run, COUNTING, A, ((), thing))
                self.assert_place(BadPaper, plain.never_refusal(A, thing), need_never, COUNTING, A, thing)
                self.assert_place(BadPaper, (), need_never, COUNTING, A, ((), thing))

    def test_there_is_always_just_one_of_both(self):
        chance = chances(94)
        for _ in range(200):
            machine = random_machine(chance, 2)
            formula = random_formula(chance, machine[0], 3)
            self.assertIs(run_to(machine, formula) is None, never_paper(machine, formula) is not None)


def at(text):
    return ("at", read_formula(text))


class Sayings(Refusing):
    def test_sayings_are_told_themselves(self):
        for thing in [at("a"), ("not", at("1")), ("and", at("a"), ("next", at("b"))),
            ("until", at("a"), ("always", at("b")))]:
            self.assertIs(need_saying(COUNTING, thing), thing)

    def test_refused_by_the_way_to_the_first(self):
        plain = PlainMachine(COUNTING)
        for thing, way in [
            (5, ()), ((), ()), (("at",), ()), (("at", 5), ()), (("at", A, A), ()), (("at", name("x")), ()),
            (["at", A], ()),
            (("at", ("not", 5)), ()), (("at", ("some", "z", A)), ()), (("not",), ()), (("not", 5), (0,)),
            (("or", at("a"), at("b")), ()),
            (("not", at("a"), at("a")), ()), (("and", at("a")), ()), (("and", at("a"), 5), (1,)), (("and", 5, 5), (0,)),
            (("until", at("a"), ("next", at("z"))), (1, 0)), (("always", ("and", at("a"), at("q"))), (0, 1)), (A, ()),
            (("next", A), (0,)), (([], at("a")), ()), (({}, at("a")), ()), ((None, 5), ()), ((True, 5), ()), ("at", ()),
            (("Not", at("a")), ()), (("until", at("a"), at("b"), at("a")), ()), (("always",), ()),
            (("next", [at("a")]), (0,)),
        ]:
            with self.subTest(thing=thing):
                self.assertEqual(plain.saying_refusal(thing), way)
                for call in (need_saying, so_at, rounds_of):
                    self.assert_place(BadSaying, way, call, COUNTING, thing)

    def test_five_and_six_within_one_another(self):
        thing = at("a")
        for _ in range(5):
            thing = ("not", thing)
        self.assertIs(need_saying(COUNTING, thing), thing)
        self.assert_place(BadSaying, (0,) * 6, need_saying, COUNTING, ("not", thing))
        self.assert_place(BadSaying, (1,) + (0,) * 5, need_saying, COUNTING, ("and", at("a"), thing))
        self.assert_place(BadSaying, (0,) * 6, need_saying, COUNTING, deep(("next",)))
        self.assert_place(BadSaying, (0,) * 6, need_saying, COUNTING, doubled(("until",)))

    def test_twenty_and_twenty_one(self):
        def pairs(many):
            return at("a") if many == 1 else ("and", pairs(many - 1), pairs(many - 1))

        nineteen = ("and", pairs(4), ("and", at("a"), at("b")))
        twenty = ("and", pairs(4), ("and", at("a"), ("not", at("b"))))
        for thing in (nineteen, twenty):
            self.assertIs(need_saying(COUNTING, thing), thing)
        self.assert_place(BadSaying, (1, 1, 0, 0), need_saying, COUNTING,
                          ("and", pairs(4), ("and", at("a"), ("not", ("not", at("b"))))))
        self.assert_place(BadSaying, (1, 1, 0), need_saying, COUNTING, ("and", pairs(4), ("and", at("a"), ("not", 5))))
        self.assert_place(BadSaying, (1, 1, 1), need_saying, COUNTING,
                          ("and", pairs(4), ("and", at("a"), ("and", at("a"), at("b")))))

    def test_drawn_things(self):
        chance = chances(95)
        plain = PlainMachine(COUNTING)
        fine = 0
        for _ in range(400):
            thing = random_saying(chance, "abbaaabbaaaaabbabz", chance.choice([1, 3, 5, 6]))
            way = plain.saying_refusal(thing)
            if way is None:
                fine += 1
                self.assertIs(need_saying(COUNTING, thing), thing)
            else:
                self.assert_place(BadSaying, way, need_saying, COUNTING, thing)
        self.assertGreater(fine, 80)
        self.assertLess(fine, 380)

    def test_anything_is_refused(self):
        plain = PlainMachine(COUNTING)
        for call in (need_saying, so_at, rounds_of):
            for kind, thing in nothings():
                with self.subTest(kind):
                    self.assert_place(BadSaying, plain.saying_refusal(thing), call, COUNTING, thing)
                    self.assert_place(BadSaying, (), call, COUNTING, ("at", thing))
                    self.assert_place(BadSaying, plain.saying_refusal(("not", thing)), call, COUNTING, ("not", thing))
                    self.assert_place(BadSaying, (1,), call, COUNTING, ("until", at("a"), thing))

    def test_by_hand(self):
        none, a, b, ab = (), ("a",), ("b",), ("a", "b")
        pairs = [(none, b), (b, a), (a, b), (a, none)]
        machine = machine_by(pairs, [none])
        for saying, told in [
            (at("a"), (a, ab)), (("not", at("a")), (none, b)), (("and", at("a"), at("b")), (ab,)),
            (("next", at("1")), (none, a, b)), (("next", at("b")), (none, a)), (("next", at("0")), ()),
            (("not", ("next", at("1"))), (ab,)),
            # Q at once, with P nowhere asked.
            (("until", at("0"), at("b")), (b, ab)), (("until", at("1"), at("b")), (none, a, b, ab)),
            (("until", at("b"), at("a & !b")), (a, b)), (("until", at("1"), at("a & b")), (ab,)),
            # Only where there are states without end.
            (("always", at("1")), (none, a, b)), (("always", at("a ^ b")), (a, b)), (("always", at("a")), ()),
            (("always", at("0")), ()), (("always", at("a & b")), ()),
        ]:
            with self.subTest(saying=saying):
                self.assertEqual(so_at(machine, saying), told)

    def test_rounds_by_hand(self):
        none, a, b, ab = (), ("a",), ("b",), ("a", "b")
        for saying, told in [
            (("until", at("1"), at("a & b")), ((ab,), (a,), (b,), (none,))),
            (("until", at("b"), at("a & !b")), ((a,), (b,))),
            (("until", at("1"), at("0")), ((),)),
            (("until", at("0"), at("a")), ((a, ab),)),
            (("always", at("1")), ((),)),
            (("always", at("!(a & b)")), ((ab,), (a,), (b,), (none,))),
            (("always", at("0")), ((none, a, b, ab),)),
            (("always", at("a")), ((none, b),)),
        ]:
            with self.subTest(saying=saying):
                self.assertEqual(rounds_of(COUNTING, saying), told)
        # Such from which no step leads go in the second round, also where the first is ().
        machine = machine_by([(none, b), (b, a)], [none])
        self.assertEqual(rounds_of(machine, ("always", at("1"))), ((), (a, ab), (b,), (none,)))
        self.assertEqual(rounds_of(machine, ("always", at("!b"))), ((b, ab), (none, a)))

    def test_only_two_kinds_have_rounds(self):
        for saying in [at("a"), ("not", ("always", at("a"))), ("and", at("a"), at("b")), ("next", at("a"))]:
            self.refused(BadQuestion, rounds_of, COUNTING, saying)

    def test_drawn_sayings(self):
        chance = chances(96)
        for _ in range(250):
            machine = random_machine(chance, chance.choice([1, 2, 2, 3]))
            plain = PlainMachine(machine)
            for _ in range(3):
                saying = random_saying(chance, machine[0], chance.choice([1, 2, 3, 4]))
                if plain.saying_refusal(saying) is not None:
                    continue
                self.assertEqual(so_at(machine, saying), in_order(plain.so_at(saying)))
                for whole in (("until", saying, at("1")), ("always", saying), saying):
                    if whole[0] in ("until", "always") and plain.saying_refusal(whole) is None:
                        self.look_at_rounds(machine, plain, whole)

    def look_at_rounds(self, machine, plain, saying):
        told = rounds_of(machine, saying)
        self.assertEqual(told, tuple(map(in_order, plain.rounds_of(saying))))
        every = [state for part in told for state in part]
        self.assertEqual(len(every), len(set(every)))
        so = set(so_at(machine, saying))
        self.assertEqual(so, set(every) if saying[0] == "until" else set(plain.states) - set(every))

    def test_all_steps_of_one_name(self):
        # All machines of one name, by all steps and first ones.
        for pairs in product([False, True], repeat=4):
            every = [(one, other) for one in ((), ("a",)) for other in ((), ("a",))]
            chosen = [pair for pair, there in zip(every, pairs) if there]
            for first in ([], [()], [("a",)], [(), ("a",)]):
                machine = machine_by(chosen, first, ("a",), ("x",))
                plain = PlainMachine(machine)
                self.assertEqual(plain.pairs, set(chosen))
                self.assertEqual(layers(machine), tuple(map(in_order, plain.layers())))
                for text in ("a", "!a", "1", "0"):
                    self.assertEqual(run_to(machine, read_formula(text)), plain.run_to(read_formula(text)))
                    for other in ("a", "!a", "1", "0"):
                        for saying in (("until", at(text), at(other)), ("always", at(text))):
                            self.assertEqual(so_at(machine, saying), in_order(plain.so_at(saying)))
                            self.look_at_rounds(machine, plain, saying)


if __name__ == "__main__":
    unittest.main()
