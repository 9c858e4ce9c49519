"""Whole lines: the form of what is given back, refusals in the middle, many digits, nothing kept or changed."""

import contextlib
import inspect
import io
import math
import random
import sys
import unittest

from tests.measuring import HUGE, ask, drain, fill, joined, model_answers, parted, pour, some, state, strength, vessel
from vesselriddle.vessels import answers

PRIMES = [n for n in range(500, 1000) if all(n % d for d in range(2, n))]


class Watched(list):
    """A list that refuses to be changed."""

    def refuse(self, *told):
        raise AssertionError("what was handed in was changed")

    append = extend = insert = pop = remove = clear = sort = reverse = refuse
    __setitem__ = __delitem__ = __iadd__ = __imul__ = refuse


def chance_number(chance, most):
    """Mostly a number from 0 to most, seldom one beside or far away."""
    if chance.random() < 0.95:
        return chance.randint(0, most)
    return chance.choice((-1, most + 1, -HUGE, HUGE))


def chance_call(chance):
    number = chance.choice((0, 1, 1, 2, 3, 3, 3, 4, 4, 4, 4, 5, 6))
    if number == 0:
        return vessel(chance_number(chance, 12))
    if number == 1:
        return fill(chance_number(chance, 2), chance_number(chance, 2))
    if number == 2:
        return drain(chance_number(chance, 2))
    if number == 3:
        return pour(chance_number(chance, 2), chance_number(chance, 2))
    if number == 4:
        p = chance_number(chance, chance.choice((5, 1000)))
        q = chance_number(chance, chance.choice((5, 1000)))
        return some(chance_number(chance, 2), chance_number(chance, 2), p, q)
    if number == 5:
        return state()
    return strength(chance_number(chance, 2), chance_number(chance, 2))


def chance_line(seed, length):
    chance = random.Random(seed)
    return [vessel(chance.randint(1, 12)) for k in range(chance.randint(0, 3))] + [
        chance_call(chance) for k in range(length - 3)]


def mixing_line(count):
    """Three kinds in three vessels, and then mixing by parts with ever other primes below; the state last."""
    calls = [vessel(12), vessel(12), vessel(12), fill(0, 0), some(0, 1, 4, 1), some(0, 2, 4, 1), fill(0, 1),
             some(0, 1, 3, 1), some(0, 2, 1, 1), fill(0, 2)]
    while len(calls) < count - 1:
        k = len(calls)
        a = k % 3
        calls.append(some(a, (a + 1) % 3, 400 + k, PRIMES[k % len(PRIMES)]))
    return calls + [state()]


class FormTest(unittest.TestCase):
    def test_how_many_numbers_then_these(self):
        calls = [5, 0, 5, 0, 13, 1, 0, 2, 5, 3, 0, 0, 6, 0, 2, 2, 0]
        self.assertEqual(answers(calls), [1, 0, 2, 0, 0, 1, -1, 3, 0, 5, 1, 10, 0, 5, 5, 1, 0, 1, 0, 1, 5, 1, 1, -3,
                                          3, 0, 1, 1, 3, 0, 5, 1])

    def test_one_call(self):
        self.assertEqual(answers([5]), [1, 0])
        self.assertEqual(answers([0, 12]), [2, 0, 0])
        self.assertEqual(answers([4, 0, 0, 0, 0]), [1, -1])

    def test_plain_whole_numbers_in_a_plain_list(self):
        for seed in range(20):
            given = answers(joined(chance_line(seed, 60)))
            self.assertIs(type(given), list)
            self.assertEqual({type(number) for number in given}, {int})

    def test_a_new_line_has_no_vessels(self):
        self.assertEqual(ask(fill(0, 0), drain(0), pour(0, 1), some(0, 1, 0, 1), strength(0, 0), state()),
                         [[-1], [-1], [-1], [-1], [-1], [0]])


class RefusalTest(unittest.TestCase):
    def test_all_is_as_it_was(self):
        before = [vessel(12), vessel(5), vessel(7), fill(1, 0), pour(1, 0), fill(2, 1), some(2, 0, 7, 3), fill(1, 2)]
        refused = [
            (vessel(0), -1), (vessel(13), -1), (vessel(4), -5), (fill(3, 0), -1), (fill(0, 3), -1), (fill(0, -1), -1),
            (drain(3), -1), (drain(-1), -1), (pour(0, 0), -3), (pour(0, 3), -1), (pour(3, 0), -1), (pour(-1, -1), -1),
            (some(0, 0, 1, 1), -3), (some(0, 1, 1, 1000), -4), (some(2, 0, 900, 100), -4), (some(0, 2, 3, 1), -4),
            (some(0, 2, 1001, 1), -1), (some(0, 2, -1, 1), -1), (some(0, 2, 1, 0), -1), (some(0, 2, 1, 1001), -1),
            (strength(0, 3), -1), (strength(3, 0), -1),
        ]
        for call, refusal in refused:
            given = ask(*before, state(), call, state())
            self.assertEqual(given[-2], [refusal], call)
            self.assertEqual(given[-3], given[-1], call)
        every = ask(*before, state(), *[call for call, refusal in refused], state())
        self.assertEqual(every[len(before)], every[-1])
        self.assertEqual(every[len(before) + 1:-1], [[refusal] for call, refusal in refused])

    def test_what_follows_is_as_without_it(self):
        for seed in range(30):
            calls = chance_line(seed, 50)
            given = ask(*calls)
            kept = [call for call, answer in zip(calls, given) if answer[0] == 0]
            if kept:
                self.assertEqual(ask(*kept), [answer for answer in given if answer[0] == 0])


class ModelTest(unittest.TestCase):
    def test_lines_by_chance(self):
        for seed in range(300):
            calls = chance_line(seed, 80)
            self.assertTrue(answers(joined(calls)) == model_answers(calls), seed)

    def test_long_lines_by_chance(self):
        for seed in range(1000, 1010):
            calls = chance_line(seed, 200)
            self.assertTrue(answers(joined(calls)) == model_answers(calls), seed)


class ManyDigitsTest(unittest.TestCase):
    def test_200_calls(self):
        calls = mixing_line(200)
        self.assertEqual(len(calls), 200)
        given = answers(joined(calls))
        # assertEqual would show the numbers, and Python shows none of so many digits.
        self.assertTrue(given == model_answers(calls))
        self.assertGreater(max(given).bit_length(), 10000)

    def test_lowest_terms_to_the_end(self):
        calls = mixing_line(120) + [strength(k, kind) for k in range(3) for kind in range(3)]
        given = parted(answers(joined(calls)))
        told = given[119]
        fractions = [told[at:at + 2] for v in range(3) for at in range(2 + 9 * v, 10 + 9 * v, 2)]
        fractions += [answer[1:] for answer in given[120:]]
        self.assertEqual(len(fractions), 21)
        for above, below in fractions:
            self.assertTrue(below > 0 and math.gcd(above, below) == 1)

    def test_asked_between_mixing(self):
        calls = mixing_line(50)
        asked = []
        for k, call in enumerate(calls):
            asked += [call, strength(k % 3, k // 3 % 3), state(), strength((k + 1) % 3, k % 3)]
        self.assertEqual(len(asked), 200)
        self.assertTrue(answers(joined(asked)) == model_answers(asked))

    def test_pouring_to_and_fro(self):
        calls = [vessel(12), vessel(11), vessel(7), fill(0, 0), fill(1, 1), fill(2, 2), drain(2)]
        while len(calls) < 199:
            calls.append(pour((0, 2, 1, 2)[len(calls) % 4], (2, 1, 2, 0)[len(calls) % 4]))
        calls.append(state())
        self.assertTrue(answers(joined(calls)) == model_answers(calls))


class NothingKeptTest(unittest.TestCase):
    def test_what_is_handed_in_is_as_it_was(self):
        for seed in range(50):
            calls = joined(chance_line(seed, 60))
            handed = list(calls)
            answers(handed)
            self.assertEqual(handed, calls)

    def test_it_is_not_changed_for_a_while_either(self):
        for seed in range(50):
            calls = joined(chance_line(seed, 60))
            self.assertTrue(answers(Watched(calls)) == answers(calls))

    def test_the_same_again_with_others_between(self):
        lines = [joined(chance_line(seed, 60)) for seed in range(20)]
        once = [answers(line) for line in lines]
        again = [answers(line) for line in reversed(lines)]
        self.assertTrue(once == again[::-1])

    def test_what_is_given_back_is_new(self):
        line = joined([vessel(5), fill(0, 0), state()])
        first = answers(line)
        kept = list(first)
        first.clear()
        self.assertEqual(answers(line), kept)

    def test_nothing_is_printed_or_imported(self):
        calls = joined(chance_line(7, 200))
        known = set(sys.modules)
        out, err = io.StringIO(), io.StringIO()
        with contextlib.redirect_stdout(out), contextlib.redirect_stderr(err):
            answers(calls)
        self.assertEqual((out.getvalue(), err.getvalue()), ("", ""))
        self.assertEqual(set(sys.modules), known)

    def test_no_deep_nesting(self):
        calls = joined(mixing_line(200))
        usual = sys.getrecursionlimit()
        sys.setrecursionlimit(len(inspect.stack()) + 40)
        try:
            answers(calls)
        finally:
            sys.setrecursionlimit(usual)


if __name__ == "__main__":
    unittest.main()
