"""Conditions: promises [7], [8] and [9]."""

import itertools
import random
import unittest

from guessrests import errors
from guessrests.bounds import is_bound, least_bound, trap_for, verdict
from guessrests.conditions import check_condition, count_values, holds, is_true, least_row, least_value, value_at
from guessrests.names import alike, parting_thing, within
from guessrests.sure import first_verdict, unlike_holder
from guessrests.words import word_at
from oracles import Oracle, evaluate, order_key, size_of
from samples import NEVER, SHORT, family_with, words_of
from test_names import BEGINS, SAME_LENGTH, plain_family

OTHERS = (errors.NoFamily, errors.NoWord, errors.HasBound, errors.Clash, errors.BadText)
KINDS = ("name", "thing", "length")
IN = ("in", "x", "i")
TOLD = (("i", "name"), ("n", "length"), ("x", "thing"))


def implied(one, other):
    return ("either", ("not", one), other)


def as_well(one, other):
    return ("both", implied(one, other), implied(other, one))


def lies_within(name, other):
    """A condition that says what `within` decides."""
    return ("each", "x", "thing", implied(("in", "x", name), ("in", "x", other)))


def is_alike(name, other):
    """A condition that says what `alike` decides."""
    return ("each", "x", "thing", as_well(("in", "x", name), ("in", "x", other)))


def holds_up_to(name, other, length):
    """A condition that says that all things of the name up to the length belong to the other one."""
    short = ("both", ("in", "x", name), ("fits", "x", length))
    return ("each", "x", "thing", implied(short, ("in", "x", other)))


def is_trap(other, name, length):
    """A condition that says that the other name is a trap."""
    strict = ("both", lies_within(other, name), ("not", is_alike(other, name)))
    return ("both", strict, holds_up_to(name, other, length))


def parts_of(condition):
    """All conditions in a condition, itself among them."""
    parts = [condition]
    for part in condition[1:]:
        if isinstance(part, tuple):
            parts.extend(parts_of(part))
    return parts


def depth_of(condition):
    return 1 + max([depth_of(part) for part in condition[1:] if isinstance(part, tuple)], default=0)


class Maker:
    """Makes conditions at random; each variable that it binds comes before a told one, so there are few values."""

    def __init__(self, seed):
        self.draw = random.Random(seed)
        self.names = ("a", "b", "n", "xy")
        told = self.draw.sample(self.names, self.draw.randint(1, 3))
        self.free = tuple((variable, self.draw.choice(KINDS)) for variable in sorted(told))
        self.condition = self.made(dict(self.free), dict(self.free), self.draw.randint(1, 8))

    def made(self, scope, told, depth):
        chance = self.draw.random()
        if depth <= 1 or chance < 0.15:
            return self.simple(scope)
        if chance < 0.3:
            return ("not", self.made(scope, told, depth - 1))
        if chance < 0.6:
            word = self.draw.choice(("both", "either"))
            return (word, self.made(scope, told, depth - 1), self.made(scope, told, depth - 1))
        variable, kind = self.draw.choice(self.names), self.draw.choice(KINDS)
        guards = [other for other in told if other != variable and told[other] == kind]
        if not guards:
            return self.made(scope, told, depth - 1)
        guard = ("before", variable, self.draw.choice(guards))
        # A told variable with the same name cannot be a guard inside.
        left = {other: told[other] for other in told if other != variable}
        part = self.made({**scope, variable: kind}, left, depth - 2)
        if self.draw.random() < 0.5:
            return ("some", variable, kind, ("both", guard, part))
        return ("each", variable, kind, ("either", ("not", guard), part))

    def simple(self, scope):
        of_kind = {kind: [variable for variable in scope if scope[variable] == kind] for kind in KINDS}
        choices = [("in", one, two) for one in of_kind["thing"] for two in of_kind["name"]] * 2
        choices += [("fits", one, two) for one in of_kind["thing"] for two in of_kind["length"]]
        for kind in KINDS:
            for one, two in itertools.product(of_kind[kind], repeat=2):
                choices += [("same", one, two), ("before", one, two)]
        return self.draw.choice(choices)


class TestExamples(unittest.TestCase):
    def test_of_the_document(self):
        short = ("ab", "a", 0, (0,), ((0, 0, 0, 0, 1), (1, 1, 1, 1, 1)))
        condition = ("each", "i", "name", ("some", "x", "thing", ("in", "x", "i")))
        least = least_row(short, ("in", "x", "i"), (("i", "name"), ("x", "thing")))
        self.assertEqual((is_true(short, condition), least), (True, ("", "")))


class TestCheckCondition(unittest.TestCase):
    def accept(self, condition, free=()):
        self.assertIsNone(check_condition(condition, free))

    def reject(self, condition, free=()):
        with self.assertRaises(errors.NoCondition) as caught:
            check_condition(condition, free)
        self.assertIs(type(caught.exception), errors.NoCondition)

    def test_valid_ones(self):
        self.accept(IN, TOLD)
        self.accept(("fits", "x", "n"), TOLD)
        self.accept(("same", "i", "i"), TOLD)
        self.accept(("before", "n", "n"), TOLD)
        self.accept(("not", ("both", IN, ("either", IN, ("fits", "x", "n")))), TOLD)
        self.accept(("each", "i", "name", ("some", "x", "thing", IN)))
        self.accept(("some", "abc" * 20, "length", ("same", "abc" * 20, "abc" * 20)))
        self.accept(("same", "x", "x"), (("x", "thing"), ("y", "name"), ("z", "length")))
        for kind in KINDS:
            self.accept(("some", "v", kind, ("before", "v", "w")), (("w", kind),))
            self.accept(("some", "v", kind, ("same", "v", "v")))

    def test_the_innermost_one_binds(self):
        # Within "each", the x is a name; behind it, a thing again.
        inner = ("each", "x", "name", ("same", "x", "i"))
        self.accept(("both", inner, IN), TOLD)
        self.reject(("each", "x", "name", IN), TOLD)
        self.reject(("both", ("each", "i", "thing", ("same", "i", "x")), ("same", "i", "x")), TOLD)
        self.accept(("some", "x", "length", ("some", "x", "thing", IN)), TOLD)

    def test_neither_bound_nor_told(self):
        self.reject(IN)
        self.reject(IN, (("i", "name"),))
        self.reject(IN, (("x", "thing"),))
        self.reject(("same", "y", "y"), TOLD)
        self.reject(("both", ("some", "y", "thing", ("same", "y", "y")), ("same", "y", "y")), TOLD)
        self.reject(("either", ("same", "i", "i"), ("not", ("fits", "x", "m"))), TOLD)
        self.reject(("some", "j", "name", ("in", "x", "k")), TOLD)

    def test_wrong_kinds_of_variables(self):
        kinds = dict(TOLD)
        for word in ("in", "fits", "same", "before"):
            for one, two in itertools.product("inx", repeat=2):
                pair = (kinds[one], kinds[two])
                right = {"in": pair == ("thing", "name"), "fits": pair == ("thing", "length")}
                if right.get(word, pair[0] == pair[1]):
                    self.accept((word, one, two), TOLD)
                else:
                    self.reject((word, one, two), TOLD)
                    self.reject(("not", ("either", IN, ("both", (word, one, two), IN))), TOLD)

    def test_words_that_are_no_kinds(self):
        for kind in ("", "names", "Name", "set", "x", "name ", "\n", "lengths", "thin"):
            self.reject(("some", "v", kind, ("same", "v", "v")))
            self.reject(("each", "v", kind, IN), TOLD)

    def test_strings_that_are_no_variables(self):
        for variable in ("", "X", "x1", " x", "x ", "x-y", "1", "\n", "x\t", "_", "aB"):
            self.reject(("some", variable, "name", ("same", variable, variable)))
            self.reject(("each", variable, "name", IN), TOLD)
            self.reject(("in", variable, "i"), TOLD)
            self.reject(("same", "i", variable), TOLD)

    def test_deep_ones(self):
        condition = IN
        for _ in range(11):
            condition = ("not", condition)
        self.accept(condition, TOLD)
        self.reject(condition, TOLD[1:])

    def test_no_condition_is_none_of_the_other_errors(self):
        for wide in (ValueError, errors.GuessError, errors.NoCondition):
            with self.assertRaises(wide):
                check_condition(IN, ())
        try:
            check_condition(IN, ())
        except errors.GuessError as error:
            self.assertNotIsInstance(error, OTHERS)

    def test_an_error_changes_nothing(self):
        for _ in range(3):
            self.reject(IN, TOLD[:1])
            self.accept(IN, TOLD)


class TestIsTrue(unittest.TestCase):
    def check(self, family, condition, expected):
        check_condition(condition, ())
        self.assertIs(is_true(family, condition), expected, (family, condition))

    def test_by_hand(self):
        finite = ("each", "i", "name", ("some", "n", "length", ("each", "x", "thing", implied(IN, ("fits", "x", "n")))))
        self.check(SHORT, finite, True)
        self.check(NEVER, finite, False)
        self.check(BEGINS, finite, False)
        one_thing = ("each", "x", "thing", ("each", "y", "thing", implied(
            ("both", IN, ("in", "y", "i")), ("same", "x", "y"))))
        self.check(SAME_LENGTH, ("each", "i", "name", one_thing), True)
        self.check(SHORT, ("each", "i", "name", one_thing), False)
        self.check(SHORT, ("some", "i", "name", one_thing), True)
        greatest = ("some", "i", "name", ("each", "j", "name", lies_within("j", "i")))
        self.check(SHORT, greatest, False)
        self.check(NEVER, greatest, True)
        self.check(BEGINS, greatest, True)

    def test_lengths_and_order(self):
        least = ("some", "n", "length", ("each", "m", "length", ("not", ("before", "m", "n"))))
        greatest = ("some", "n", "length", ("each", "m", "length", ("not", ("before", "n", "m"))))
        self.check(SHORT, least, True)
        self.check(SHORT, greatest, False)
        for kind in KINDS:
            total = ("each", "v", kind, ("each", "w", kind, ("either", ("same", "v", "w"), (
                "either", ("before", "v", "w"), ("before", "w", "v")))))
            self.check(BEGINS, total, True)
            dense = ("each", "v", kind, ("each", "w", kind, implied(("before", "v", "w"), ("some", "u", kind, (
                "both", ("before", "v", "u"), ("before", "u", "w"))))))
            self.check(BEGINS, dense, False)
            unlike = ("each", "v", kind, ("some", "v", kind, ("before", "v", "v")))
            self.check(BEGINS, unlike, False)

    def test_each_thing_fits_some_length_but_not_each(self):
        fits = ("fits", "x", "n")
        self.check(BEGINS, ("each", "x", "thing", ("some", "n", "length", fits)), True)
        self.check(BEGINS, ("some", "n", "length", ("each", "x", "thing", fits)), False)
        self.check(BEGINS, ("each", "n", "length", ("some", "x", "thing", ("not", fits))), True)

    def test_one_state(self):
        for marks, expected in (((), False), ((0,), True)):
            family = plain_family(("abc", "abc"), marks)
            self.check(family, ("some", "i", "name", ("each", "x", "thing", IN)), expected)
            self.check(family, ("each", "i", "name", ("some", "x", "thing", IN)), expected)

    def test_no_marks_and_all_marks(self):
        same_sets = ("each", "i", "name", ("each", "j", "name", is_alike("i", "j")))
        for seed in range(20):
            family = family_with(("ab", "ab"), 4, seed)
            for marks in ((), (0, 1, 2, 3)):
                marked = family[:3] + (marks,) + family[4:]
                self.check(marked, same_sets, True)
                self.check(marked, ("some", "i", "name", ("some", "x", "thing", IN)), marks != ())
                self.check(marked, ("each", "i", "name", ("each", "x", "thing", IN)), marks != ())

    def test_the_innermost_one_binds(self):
        # The name that is bound last has the thing; the outer one need not.
        empty = ("each", "x", "thing", ("not", IN))
        inner = ("some", "i", "name", ("some", "x", "thing", IN))
        self.check(SAME_LENGTH, ("some", "i", "name", ("both", empty, inner)), False)
        self.check(SAME_LENGTH, ("some", "i", "name", ("both", ("not", empty), inner)), True)
        self.check(plain_family(("ab", "a"), (0,)), ("each", "i", "length", inner), True)
        both = ("some", "v", "name", ("both", ("some", "v", "length", ("same", "v", "v")), ("same", "v", "v")))
        self.check(SHORT, both, True)
        strict = ("each", "v", "name", ("some", "w", "name", ("both", ("before", "v", "w"), (
            "some", "v", "name", ("before", "w", "v")))))
        self.check(SHORT, strict, True)

    def test_four_variables(self):
        union = ("each", "i", "name", ("each", "j", "name", ("some", "k", "name", ("each", "x", "thing", as_well(
            ("in", "x", "k"), ("either", ("in", "x", "i"), ("in", "x", "j")))))))
        self.check(SHORT, union, True)
        self.check(NEVER, union, True)
        self.check(SAME_LENGTH, union, False)
        self.check(BEGINS, union, False)

    def test_depth_of_twelve_and_eighty_parts(self):
        long = ("some", "x", "thing", ("in", "x", "i"))
        for _ in range(38):
            long = ("both", long, ("same", "i", "i"))
        long = ("each", "i", "name", long)
        self.assertEqual(len(parts_of(long)), 79)
        self.assertIs(is_true(SHORT, long), True)
        self.assertIs(is_true(SHORT, ("not", long)), False)
        deep = ("in", "x", "i")
        for _ in range(9):
            deep = ("not", deep)
        deep = ("each", "i", "name", ("some", "x", "thing", deep))
        self.assertEqual(depth_of(deep), 12)
        self.check(SHORT, deep, True)
        self.check(plain_family(("ab", "a"), (0,)), deep, False)

    def test_a_wide_tree(self):
        # Eighty parts with a depth of seven or less, of which one simple condition settles all.
        def tree(depth, inner):
            return inner if depth == 0 else ("both", tree(depth - 1, inner), tree(depth - 1, ("same", "n", "n")))
        for inner, expected in ((("same", "n", "n"), True), (("before", "n", "n"), False)):
            wide = ("some", "n", "length", tree(5, inner))
            self.check(SHORT, wide, expected)

    def test_what_other_functions_decide(self):
        rests = ("each", "i", "name", ("some", "n", "length", ("each", "j", "name", ("not", is_trap("j", "i", "n")))))
        sure = ("each", "i", "name", ("some", "n", "length", ("each", "j", "name", implied(
            holds_up_to("i", "j", "n"), is_alike("i", "j")))))
        families = [family_with(alphabets, 2, seed) for alphabets in (("ab", "a"), ("ab", "ab")) for seed in range(20)]
        families += [family_with(("ab", "a"), 3, seed) for seed in range(25)] + [SHORT, NEVER, BEGINS, SAME_LENGTH]
        for family in families:
            self.check(family, rests, verdict(family) == ("rests",))
            self.check(family, sure, first_verdict(family) == ("sure",))


class TestHolds(unittest.TestCase):
    def check(self, family, condition, free, values, expected):
        self.assertIs(holds(family, condition, free, values), expected, (family, condition, free, values))

    def test_simple_ones(self):
        for name, thing, n in itertools.product(words_of("ab", 3), words_of("a", 4), range(5)):
            values = (name, n, thing)
            self.check(SHORT, IN, TOLD, values, len(thing) <= len(name))
            self.check(SHORT, ("fits", "x", "n"), TOLD, values, len(thing) <= n)
        free = (("v", "name"), ("w", "name"))
        for one, two in itertools.product(words_of("ab", 3), repeat=2):
            self.check(SHORT, ("same", "v", "w"), free, (one, two), one == two)
            self.check(SHORT, ("before", "v", "w"), free, (one, two), (len(one), one) < (len(two), two))
            self.check(SHORT, ("before", "w", "v"), free, (one, two), (len(two), two) < (len(one), one))
        free = (("v", "length"), ("w", "length"))
        for one, two in itertools.product(range(6), repeat=2):
            self.check(SHORT, ("same", "v", "w"), free, (one, two), one == two)
            self.check(SHORT, ("before", "v", "w"), free, (one, two), one < two)

    def test_long_values(self):
        values = ("ab" * 30, 60, "a" * 60)
        self.check(SHORT, IN, TOLD, values, True)
        self.check(SHORT, ("fits", "x", "n"), TOLD, values, True)
        self.check(SHORT, IN, TOLD, ("ab" * 29 + "a", 60, "a" * 60), False)
        self.check(SHORT, ("fits", "x", "n"), TOLD, ("", 59, "a" * 60), False)
        self.check(BEGINS, IN, TOLD, ("ab" * 30, 0, "ab" * 30), True)
        self.check(BEGINS, IN, TOLD, ("ab" * 30, 0, "ab" * 29 + "aa"), False)
        free = (("i", "name"), ("j", "name"), ("n", "length"))
        self.check(NEVER, is_trap("j", "i", "n"), free, ("a" * 59 + "b", "a" * 60, 60), True)
        self.check(NEVER, is_trap("j", "i", "n"), free, ("a" * 59 + "b", "a" * 59, 60), False)
        self.check(SHORT, is_alike("i", "j"), free, ("ab" * 30, "b" * 60, 0), True)
        self.check(SHORT, is_alike("i", "j"), free, ("ab" * 30, "b" * 59, 0), False)

    def test_no_told_variables(self):
        self.check(SHORT, ("each", "i", "name", ("some", "x", "thing", IN)), (), (), True)
        self.check(SHORT, ("each", "i", "name", ("each", "x", "thing", IN)), (), (), False)

    def test_told_variables_that_do_not_stand_there(self):
        free = (("i", "name"), ("q", "length"), ("u", "name"), ("x", "thing"))
        for thing in words_of("a", 4):
            self.check(SHORT, IN, free, ("ab", 7, "bbb", thing), len(thing) <= 2)

    def test_a_bound_variable_with_the_name_of_a_told_one(self):
        condition = ("both", IN, ("some", "x", "thing", ("not", IN)))
        free = (("i", "name"), ("x", "thing"))
        self.check(SHORT, condition, free, ("ab", "aa"), True)
        self.check(SHORT, condition, free, ("ab", "aaa"), False)
        self.check(NEVER, condition, free, ("ab", "aa"), False)
        self.check(SHORT, ("each", "x", "name", ("same", "x", "x")), free, ("ab", "a"), True)

    def test_as_single_functions_tell(self):
        free = (("i", "name"), ("j", "name"))
        for seed in range(20):
            family = family_with(("ab", "a"), 3, seed)
            for one, two in itertools.product(words_of("ab", 2), repeat=2):
                self.check(family, lies_within("i", "j"), free, (one, two), within(family, one, two))
                self.check(family, is_alike("i", "j"), free, (one, two), alike(family, one, two))


class TestTryingAllValues(unittest.TestCase):
    """Conditions in which each bound variable comes before a told one, so that all its values can be tried."""

    def test_many_conditions(self):
        seen = set()
        for seed in range(1500):
            maker = Maker(seed)
            draw = maker.draw
            alphabets = draw.choice((("ab", "a"), ("ab", "ab"), ("a", "b"), ("z", "abc"), ("abc", "b")))
            family = family_with(alphabets, draw.randint(1, 5), seed)
            oracle = Oracle(family, 0, 0, 0)
            self.domains = {"name": words_of(alphabets[0], 2), "thing": words_of(alphabets[1], 2), "length": range(4)}
            check_condition(maker.condition, maker.free)
            rows = list(itertools.product(*[self.domains[kind] for _, kind in maker.free]))
            right = [row for row in rows if self.tried(oracle, maker, row)]
            seen.update(part[0] for part in parts_of(maker.condition))
            for row in draw.sample(rows, min(len(rows), 12)):
                answer = holds(family, maker.condition, maker.free, row)
                self.assertIs(answer, row in right, (family, maker.condition, maker.free, row))
            self.check_least_row(family, maker, right)
            if len(maker.free) == 1:
                self.check_values(family, maker, [row[0] for row in right])
        self.assertEqual(len(seen), 9)

    def tried(self, oracle, maker, row):
        values = {variable: value for (variable, _), value in zip(maker.free, row)}
        return evaluate(oracle, maker.condition, values, self.domains)

    def check_least_row(self, family, maker, right):
        def key(row):
            return (
                max(size_of(value) for value in row),
                [order_key(kind, value) for (_, kind), value in zip(maker.free, row)],
            )
        small = [row for row in right if key(row)[0] <= 2]
        answer = least_row(family, maker.condition, maker.free)
        if small:
            self.assertEqual(answer, min(small, key=key), (family, maker.condition, maker.free))
            self.assertIs(type(answer), tuple)
        elif answer is not None:
            self.assertGreater(key(answer)[0], 2, (family, maker.condition, maker.free))
            self.assertIs(holds(family, maker.condition, maker.free, answer), True)

    def check_values(self, family, maker, right):
        told = (family, maker.condition, maker.free)
        domain = self.domains[maker.free[0][1]]
        answer = least_value(*told)
        if right:
            self.assertEqual(answer, right[0], told)
        else:
            self.assertNotIn(answer, domain, told)
        count = count_values(*told)
        for n in range(-2, len(right) + 2):
            value = value_at(*told, n)
            if 0 <= n < len(right):
                self.assertEqual(value, right[n], (told, n))
            elif n < 0 or count is not None and n >= count:
                self.assertIsNone(value, (told, n))
            else:
                self.assertNotIn(value, domain)
                self.assertIs(holds(*told, (value,)), True)
        if count is not None:
            self.assertGreaterEqual(count, len(right))
            self.assertIsNone(value_at(*told, min(count, 200)) if count <= 200 else None)


class TestOneFreeVariable(unittest.TestCase):
    def test_by_hand(self):
        things = ("some", "i", "name", ("both", ("in", "x", "i"), ("each", "j", "name", ("not", ("before", "j", "i")))))
        self.assertEqual(count_values(SHORT, things, (("x", "thing"),)), 1)
        endless = ("each", "n", "length", ("some", "x", "thing", ("both", IN, ("not", ("fits", "x", "n")))))
        free = (("i", "name"),)
        self.assertIsNone(least_value(SHORT, endless, free))
        self.assertEqual(count_values(SHORT, endless, free), 0)
        self.assertEqual([value_at(SHORT, endless, free, n) for n in (-1, 0, 1, 200)], [None] * 4)
        self.assertEqual(least_value(NEVER, endless, free), "b")
        self.assertEqual([value_at(NEVER, endless, free, n) for n in range(5)], ["b", "ab", "ba", "bb", "aab"])
        self.assertIsNone(count_values(NEVER, endless, free))
        self.assertIsNone(value_at(NEVER, endless, free, -1))

    def test_a_finite_number_of_names(self):
        # Names with at most as many letters as the empty name, or one more, or two more, has neighbours.
        second = ("some", "j", "name", ("both", ("before", "j", "i"), ("not", ("some", "k", "name", (
            "both", ("before", "j", "k"), ("before", "k", "i"))))))
        free = (("i", "name"),)
        self.assertIsNone(count_values(SHORT, second, free))
        self.assertEqual(least_value(SHORT, second, free), "a")
        few = ("not", second)
        self.assertEqual(count_values(SHORT, few, free), 1)
        self.assertEqual(value_at(SHORT, few, free, 0), "")
        self.assertIsNone(value_at(SHORT, few, free, 1))

    def test_lengths(self):
        free = (("n", "length"),)
        short = ("some", "x", "thing", ("both", ("fits", "x", "n"), ("some", "y", "thing", (
            "both", ("before", "y", "x"), ("some", "z", "thing", ("before", "z", "y"))))))
        self.assertEqual([value_at(SHORT, short, free, n) for n in (0, 1, 2, 200)], [2, 3, 4, 202])
        self.assertEqual(least_value(BEGINS, short, free), 1)
        self.assertIsNone(count_values(BEGINS, short, free))
        self.assertEqual(count_values(BEGINS, ("not", short), free), 1)
        self.assertEqual(count_values(SHORT, ("not", short), free), 2)
        self.assertEqual([value_at(SHORT, ("not", short), free, n) for n in range(-1, 4)], [None, 0, 1, None, None])
        self.assertIs(type(least_value(BEGINS, short, free)), int)

    def test_a_variable_that_need_not_stand_there(self):
        for kind, values in (("name", ["", "a", "b", "aa"]), ("thing", ["", "a", "aa", "aaa"]), ("length", [0, 1, 2, 3])):
            free = (("v", kind),)
            right = ("some", "n", "length", ("same", "n", "n"))
            for condition in (right, ("same", "v", "v"), ("some", "v", "name", ("same", "v", "v"))):
                self.assertEqual(least_value(SHORT, condition, free), values[0])
                self.assertEqual([value_at(SHORT, condition, free, n) for n in range(4)], values)
                self.assertIsNone(count_values(SHORT, condition, free))
            for condition in (("not", right), ("before", "v", "v")):
                self.assertIsNone(least_value(SHORT, condition, free))
                self.assertEqual([value_at(SHORT, condition, free, n) for n in range(-1, 3)], [None] * 4)
                self.assertEqual(count_values(SHORT, condition, free), 0)
        self.assertEqual(value_at(BEGINS, ("same", "v", "v"), (("v", "name"),), 200), word_at("ab", 200))

    def test_least_values_stand_for_some(self):
        # What holds for some value holds for the least one, and for no earlier one.
        free = (("i", "name"),)
        for seed in range(60):
            family = family_with(("ab", "a"), 3, seed)
            for condition in (
                ("some", "j", "name", ("both", ("before", "j", "i"), is_alike("i", "j"))),
                ("each", "j", "name", implied(lies_within("j", "i"), is_alike("j", "i"))),
                ("each", "n", "length", ("some", "j", "name", is_trap("j", "i", "n"))),
                ("some", "j", "name", ("both", lies_within("i", "j"), ("not", lies_within("j", "i")))),
            ):
                least = least_value(family, condition, free)
                self.assertIs(is_true(family, ("some", "i", "name", condition)), least is not None)
                for name in words_of("ab", 2):
                    earlier = least is None or (len(name), name) < (len(least), least)
                    answer = holds(family, condition, free, (name,))
                    self.assertIs(answer, False if earlier else True if name == least else answer)

    def test_what_other_functions_tell(self):
        free = (("i", "name"),)
        unbounded = ("each", "n", "length", ("some", "j", "name", is_trap("j", "i", "n")))
        for seed in range(30):
            family = family_with(("ab", "a"), 3, seed)
            least = least_value(family, unbounded, free)
            self.assertEqual(verdict(family), ("rests",) if least is None else ("never", least))
            bounded = ("each", "j", "name", ("not", is_trap("j", "i", "n")))
            for name in ("", "b", "ab"):
                for n in range(3):
                    self.assertIs(holds(family, bounded, (("i", "name"), ("n", "length")), (name, n)),
                                  is_bound(family, name, n))


class TestLeastRow(unittest.TestCase):
    def test_by_hand(self):
        free = (("i", "name"), ("x", "thing"))
        self.assertEqual(least_row(SHORT, ("not", IN), free), ("", "a"))
        self.assertEqual(least_row(SHORT, IN, free), ("", ""))
        self.assertIsNone(least_row(SHORT, ("both", IN, ("not", IN)), free))
        trap = is_trap("j", "i", "n")
        self.assertEqual(least_row(NEVER, trap, (("i", "name"), ("j", "name"), ("n", "length"))), ("a", "", 0))
        self.assertIsNone(least_row(SAME_LENGTH, trap, (("i", "name"), ("j", "name"), ("n", "length"))))

    def test_the_longest_part_counts_first(self):
        # The x is longer than i and comes first, but a short i is no help if x gets longer.
        free = (("x", "thing"), ("y", "thing"))
        apart = ("both", ("before", "x", "y"), ("not", ("same", "x", "y")))
        self.assertEqual(least_row(BEGINS, apart, free), ("", "a"))
        long = ("some", "u", "thing", ("some", "v", "thing", ("both", ("before", "u", "v"), ("both", (
            "before", "v", "x"), ("before", "y", "x")))))
        self.assertEqual(least_row(BEGINS, long, free), ("b", ""))
        both = ("both", long, ("some", "u", "thing", ("both", ("before", "u", "y"), ("before", "y", "x"))))
        self.assertEqual(least_row(BEGINS, both, free), ("b", "a"))
        lengths = (("m", "length"), ("x", "thing"))
        self.assertEqual(least_row(BEGINS, ("not", ("fits", "x", "m")), lengths), (0, "a"))
        swapped = ("both", ("not", ("fits", "x", "m")), ("some", "k", "length", ("before", "k", "m")))
        self.assertEqual(least_row(BEGINS, swapped, lengths), (1, "aa"))

    def test_a_first_part_that_is_longer_than_the_others(self):
        # A name with a b has all things, so the least name that has a longer thing is longer than the empty one.
        free = (("i", "name"), ("n", "length"), ("x", "thing"))
        condition = ("both", IN, ("not", ("some", "j", "name", ("both", ("before", "i", "j"), ("fits", "x", "n")))))
        self.assertEqual(least_row(NEVER, condition, free), ("a", 0, "a"))
        self.assertEqual(least_row(NEVER, ("both", condition, ("some", "m", "length", ("before", "m", "n"))), free),
                         ("b", 1, "aa"))

    def test_variables_that_do_not_stand_there(self):
        free = (("i", "name"), ("m", "length"), ("x", "thing"))
        self.assertEqual(least_row(SHORT, ("not", IN), free), ("", 0, "a"))
        self.assertEqual(least_row(SHORT, ("same", "i", "i"), free), ("", 0, ""))
        self.assertIsNone(least_row(SHORT, ("before", "i", "i"), free))
        self.assertEqual(least_row(SHORT, ("some", "k", "name", ("same", "k", "k")), free), ("", 0, ""))

    def test_one_variable(self):
        for seed in range(40):
            family = family_with(("ab", "ab"), 2, seed)
            condition = ("some", "x", "thing", ("both", ("not", IN), ("some", "y", "thing", (
                "both", ("in", "y", "i"), ("before", "y", "x")))))
            row = least_row(family, condition, (("i", "name"),))
            value = least_value(family, condition, (("i", "name"),))
            self.assertEqual(row, None if value is None else (value,))

    def test_what_other_functions_tell(self):
        parting = ("both", IN, ("not", ("in", "x", "j")))
        free = (("i", "name"), ("j", "name"), ("x", "thing"))
        for seed in range(30):
            family = family_with(("ab", "ab"), 2, seed)
            row = least_row(family, parting, free)
            if row is None:
                self.assertIs(within(family, "a", "b"), True)
            else:
                self.assertEqual(parting_thing(family, row[0], row[1]), row[2])


class TestNothingIsKept(unittest.TestCase):
    def test_families_by_turns(self):
        free = (("i", "name"),)
        finite = ("some", "n", "length", ("each", "x", "thing", implied(IN, ("fits", "x", "n"))))
        for _ in range(3):
            self.assertIs(is_true(SHORT, ("each", "i", "name", finite)), True)
            self.assertIs(is_true(NEVER, ("each", "i", "name", finite)), False)
            self.assertEqual(least_value(NEVER, ("not", finite), free), "b")
            self.assertIsNone(least_value(SHORT, ("not", finite), free))
            self.assertEqual(trap_for(NEVER, "b", 1), "a")
            self.assertEqual(unlike_holder(SHORT, "", 1), "a")
            self.assertEqual(least_bound(SHORT, "aa"), 2)


if __name__ == "__main__":
    unittest.main()
