"""Families, their columns and which thing belongs to which name: promises [5] and [6]."""

import itertools
import random
import unittest

from guessrests import errors
from guessrests.families import belongs, check_family, columns_of
from samples import COLUMNS, NEVER, SHORT, family_of, random_family, random_word, words_of

HUGE = 10 ** 5000
OTHERS = (errors.NoWord, errors.NoCondition, errors.HasBound, errors.Clash, errors.BadText)

# Three states, of which the last one is never reached.
GOOD = ("ab", "cd", 1, (0, 2), (
    (0, 1, 0, 1, 0, 1, 0, 1),
    (1, 1, 0, 0, 1, 1, 0, 0),
    (2, 0, 1, 2, 0, 1, 2, 0),
))


def with_part(family, at, part):
    """The family with another part at this place."""
    return family[:at] + (part,) + family[at + 1:]


def with_state(family, row, column, state):
    """The family with another state at this place of its steps."""
    rows = [list(old) for old in family[4]]
    rows[row][column] = state
    return with_part(family, 4, tuple(tuple(new) for new in rows))


def out_of_range(count):
    """Integers that are none of that many states."""
    return (count, count + 1, count + 100, -1, -2, -count, -count - 1, HUGE, -HUGE, HUGE + 1)


class TestCheckFamily(unittest.TestCase):
    def accept(self, family):
        self.assertIsNone(check_family(family))

    def reject(self, family):
        with self.assertRaises(errors.NoFamily) as caught:
            check_family(family)
        self.assertIs(type(caught.exception), errors.NoFamily)

    def test_the_families_of_the_examples(self):
        self.accept(SHORT)
        self.accept(NEVER)
        self.accept(GOOD)

    def test_random_families(self):
        for seed in range(300):
            self.accept(random_family(seed)[0])

    def test_one_state_is_enough(self):
        for alphabets, columns in COLUMNS.items():
            for marks in ((), (0,)):
                self.accept(alphabets + (0, marks, ((0,) * len(columns),)))

    def test_all_starts_and_all_ascending_marks(self):
        for start in range(3):
            for many in range(4):
                for marks in itertools.combinations(range(3), many):
                    self.accept(with_part(with_part(GOOD, 3, marks), 2, start))

    def test_states_that_are_never_reached(self):
        rows = GOOD[4] + ((3,) * 8, (5,) * 8, (0,) * 8)
        self.accept(with_part(GOOD, 4, rows))
        self.accept(with_part(with_part(GOOD, 4, rows), 3, (3, 4, 5)))

    def test_the_same_alphabet_for_names_and_things(self):
        self.accept(("ab", "ab") + GOOD[2:])

    def test_alphabets(self):
        wrong = ("", "ba", "aa", "abcd", "aB", "AB", "a1", "a ", " a", "a-", "a\n", "\n", "acb", "aab", "1", " ")
        for text in wrong:
            self.reject(with_part(GOOD, 0, text))
            self.reject(with_part(GOOD, 1, text))
            self.reject((text, text) + GOOD[2:])

    def test_wrong_alphabets_with_the_right_number_of_columns(self):
        for text in ("ba", "aa", "a1", "A ", "\nb"):
            self.reject(with_part(SHORT, 0, text))
        for text in ("A", "1", " ", "\n", "-"):
            self.reject(with_part(SHORT, 1, text))
        # Four letters, with rows that are as wide as four letters would ask for.
        self.reject(("abcd", "a", 0, (), ((0,) * 9,)))
        self.reject(("a", "abcd", 0, (), ((0,) * 9,)))
        self.reject(("", "a", 0, (), ((0,),)))
        self.reject(("a", "", 0, (), ((0,),)))
        self.reject(("", "", 0, (), ((),)))

    def test_no_states(self):
        self.reject(("ab", "a", 0, (), ()))
        self.reject(("ab", "a", 0, (0,), ()))
        self.reject(("ab", "a", -1, (), ()))

    def test_start_out_of_range(self):
        for start in out_of_range(3):
            self.reject(with_part(GOOD, 2, start))
        for start in out_of_range(1):
            self.reject(("a", "b", start, (), ((0, 0, 0),)))

    def test_marks_out_of_range(self):
        for state in out_of_range(3):
            self.reject(with_part(GOOD, 3, (state,)))
            self.reject(with_part(GOOD, 3, tuple(sorted((0, 2, state)))))
            self.reject(with_part(GOOD, 3, (0, 1, 2, state)))
            self.reject(with_part(GOOD, 3, (state, 0, 1, 2)))
        self.reject(with_part(GOOD, 3, (-HUGE, HUGE)))
        self.reject(with_part(GOOD, 3, (0, 1, 2, 3)))
        self.reject(with_part(GOOD, 3, (-1, 0, 1, 2)))

    def test_marks_not_ascending_or_twice(self):
        for many in range(2, 5):
            for marks in itertools.product(range(3), repeat=many):
                if list(marks) != sorted(set(marks)):
                    self.reject(with_part(GOOD, 3, marks))

    def test_too_few_rows(self):
        # A step, a mark or the start is no state without the rows that are left out.
        self.reject(with_part(with_part(with_part(GOOD, 4, GOOD[4][:1]), 3, ()), 2, 0))
        self.reject(with_part(GOOD, 4, GOOD[4][:2]))
        self.reject(with_part(with_part(with_part(GOOD, 4, ((0,) * 8,)), 3, ()), 2, 1))
        self.reject(with_part(NEVER, 4, NEVER[4][:2]))
        self.reject(with_part(NEVER, 4, NEVER[4][:1]))
        self.accept(with_part(with_part(GOOD, 4, GOOD[4][:2]), 3, (0, 1)))

    def test_a_further_row_is_a_further_state(self):
        for width in range(12):
            family = with_part(GOOD, 4, GOOD[4] + ((0,) * width,))
            if width == 8:
                self.accept(family)
            else:
                self.reject(family)

    def test_too_few_or_too_many_columns(self):
        for alphabets, columns in COLUMNS.items():
            for at in range(3):
                for width in range(len(columns) + 4):
                    rows = [(0,) * len(columns)] * 3
                    rows[at] = (0,) * width
                    family = alphabets + (0, (), tuple(rows))
                    if width == len(columns):
                        self.accept(family)
                    else:
                        self.reject(family)

    def test_all_rows_too_narrow_or_too_wide(self):
        for width in (0, 1, 4, 7, 9, 16, 100):
            self.reject(with_part(GOOD, 4, ((0,) * width,) * 3))

    def test_a_state_out_of_range_at_each_place(self):
        for row, column in itertools.product(range(3), range(8)):
            for state in out_of_range(3):
                self.reject(with_state(GOOD, row, column, state))
            for state in range(3):
                self.accept(with_state(GOOD, row, column, state))

    def test_integers_of_thousands_of_digits_at_all_places(self):
        self.reject(("ab", "a", HUGE, (HUGE,), ((HUGE,) * 5, (-HUGE,) * 5)))
        self.reject(("ab", "a", -HUGE, (-HUGE, HUGE), ((0,) * 5,)))

    def test_two_wrong_parts(self):
        self.reject(with_part(with_part(GOOD, 0, "ba"), 2, HUGE))
        self.reject(with_part(with_part(GOOD, 3, (2, 1)), 4, ()))

    def test_no_family_is_none_of_the_other_errors(self):
        for family in (("", "a", 0, (), ((0,),)), with_part(GOOD, 2, 3), with_part(GOOD, 4, ())):
            for wide in (ValueError, errors.GuessError, errors.NoFamily):
                with self.assertRaises(wide):
                    check_family(family)
            try:
                check_family(family)
            except errors.GuessError as error:
                self.assertNotIsInstance(error, OTHERS)

    def test_an_error_changes_nothing(self):
        for _ in range(3):
            self.reject(with_part(GOOD, 2, 3))
            self.accept(GOOD)
            self.accept(SHORT)
            self.reject(with_part(SHORT, 2, 2))
            self.assertEqual(columns_of(SHORT), COLUMNS["ab", "a"])
            self.assertIs(belongs(SHORT, "ab", "aa"), True)


class TestColumnsOf(unittest.TestCase):
    def test_written_out(self):
        for alphabets, columns in COLUMNS.items():
            family = alphabets + (0, (), ((0,) * len(columns),))
            answer = columns_of(family)
            self.assertEqual(answer, columns)
            self.assertIs(type(answer), tuple)
            self.assertEqual({type(column) for column in answer}, {tuple})

    def test_each_column_once_and_no_two_blanks(self):
        for names, things in itertools.product(("a", "q", "by", "efg", "abc"), ("a", "z", "mn", "ay", "bcd")):
            width = (len(names) + 1) * (len(things) + 1) - 1
            answer = columns_of((names, things, 0, (), ((0,) * width,)))
            self.assertEqual(len(answer), width)
            self.assertNotIn(("", ""), answer)
            # The blank comes behind every letter, and so does the sign behind the z.
            keys = [(left or "{", right or "{") for left, right in answer]
            self.assertEqual(keys, sorted(set(keys)))
            self.assertEqual({left for left, _ in answer}, set(names) | {""})
            self.assertEqual({right for _, right in answer}, set(things) | {""})

    def test_two_families_by_turns(self):
        for _ in range(3):
            self.assertEqual(columns_of(SHORT), COLUMNS["ab", "a"])
            self.assertEqual(columns_of(("cd", "xy", 0, (), ((0,) * 8,))), COLUMNS["cd", "xy"])


def walk(family, rows, name, thing):
    """Tell what belongs decides, by rows that are dicts from columns to states."""
    state = family[2]
    for column in itertools.zip_longest(name, thing, fillvalue=""):
        state = rows[state][column]
    return state in family[3]


class TestBelongs(unittest.TestCase):
    def check(self, family, name, thing, expected):
        self.assertIs(belongs(family, name, thing), expected, (family, name, thing))

    def test_the_example(self):
        short = ("ab", "a", 0, (0,), ((0, 0, 0, 0, 1), (1, 1, 1, 1, 1)))
        self.assertEqual((belongs(short, "ab", "aa"), belongs(short, "a", "aa")), (True, False))

    def test_things_that_are_at_most_as_long_as_the_name(self):
        for name in words_of("ab", 5):
            for many in range(8):
                self.check(SHORT, name, "a" * many, many <= len(name))

    def test_a_second_family_by_hand(self):
        # A name with a b has all things, and one without has those that are not longer.
        for name in words_of("ab", 5):
            for many in range(8):
                self.check(NEVER, name, "a" * many, "b" in name or many <= len(name))

    def test_each_column_leads_where_its_place_says(self):
        for alphabets, columns in COLUMNS.items():
            for wanted in columns:
                # From the start, only the wanted column leads to the mark.
                first = {column: int(column == wanted) for column in columns}
                second = {column: 1 for column in columns}
                family = family_of(alphabets, 0, (1,), [first, second])
                for column in columns:
                    self.check(family, column[0], column[1], column == wanted)
                self.check(family, "", "", False)

    def test_the_pair_of_two_empty_words_stays_at_the_start(self):
        for start in range(3):
            for marks in ((), (0,), (1,), (2,), (0, 1), (0, 2), (1, 2), (0, 1, 2)):
                self.check(with_part(with_part(GOOD, 3, marks), 2, start), "", "", start in marks)

    def test_the_end_of_the_row_decides(self):
        # The machine counts the columns, so the mark is reached at just one length.
        rows = [{column: min(state + 1, 5) for column in COLUMNS["a", "b"]} for state in range(6)]
        family = family_of(("a", "b"), 0, (3,), rows)
        for name, thing in itertools.product(range(8), repeat=2):
            self.check(family, "a" * name, "b" * thing, max(name, thing) == 3)

    def test_no_marks_and_all_marks(self):
        for seed in range(40):
            family = random_family(seed)[0]
            draw = random.Random(seed)
            for _ in range(10):
                name = random_word(draw, family[0], 9)
                thing = random_word(draw, family[1], 9)
                self.check(with_part(family, 3, ()), name, thing, False)
                self.check(with_part(family, 3, tuple(range(len(family[4])))), name, thing, True)

    def test_all_short_words_of_random_families(self):
        for seed in range(60):
            family, rows = random_family(seed)
            for name in words_of(family[0], 3):
                for thing in words_of(family[1], 3):
                    self.check(family, name, thing, walk(family, rows, name, thing))

    def test_long_words_of_random_families(self):
        for seed in range(100):
            family, rows = random_family(seed)
            draw = random.Random(seed)
            for longest, other in ((60, 60), (60, 3), (3, 60), (70, 70), (0, 60), (60, 0)):
                name = random_word(draw, family[0], longest)
                thing = random_word(draw, family[1], other)
                self.check(family, name, thing, walk(family, rows, name, thing))

    def test_sixty_letters_of_equal_and_unlike_lengths(self):
        self.check(SHORT, "ab" * 30, "a" * 60, True)
        self.check(SHORT, "ab" * 30, "a" * 61, False)
        self.check(SHORT, "b" * 59, "a" * 60, False)
        self.check(SHORT, "", "a" * 60, False)
        self.check(SHORT, "b" * 60, "", True)
        self.check(NEVER, "a" * 59 + "b", "a" * 60, True)
        self.check(NEVER, "a" * 60, "a" * 61, False)
        self.check(NEVER, "b" + "a" * 59, "", True)

    def test_two_families_by_turns(self):
        for _ in range(3):
            self.check(SHORT, "b", "aa", False)
            self.check(NEVER, "b", "aa", True)
            self.check(GOOD, "b", "c", True)
            self.check(GOOD, "a", "c", False)
            self.check(with_part(GOOD, 3, (1,)), "b", "c", False)
            self.check(with_part(GOOD, 3, (1,)), "a", "c", True)


if __name__ == "__main__":
    unittest.main()
