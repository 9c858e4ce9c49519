"""Whole lines: the form of what is given back, refusals in the middle, many digits, nothing kept or changed."""

import contextlib
import inspect
import io
import math
import random
import sys
import time
import unittest

from tests.measuring import (HUGE, Model, ask, can, check, drain, fill, gcd, joined, ledger, model_answers, parted,
                             pour, proof, some, state, strength, vessel, way)
from vesselriddle.vessels import answers

PRIMES = [n for n in range(500, 1000) if all(n % d for d in range(2, n))]


class Watched(list):
    """A list that refuses to be changed."""

    def refuse(self, *told):
        raise AssertionError("what was handed in was changed")

    append = extend = insert = pop = remove = clear = sort = reverse = refuse
    __setitem__ = __delitem__ = __iadd__ = __imul__ = refuse


def chance_number(chance, most):
    """Mostly a number from 0 to most, seldom one beside or far away."""
    if chance.random() < 0.95:
        return chance.randint(0, most)
    return chance.choice((-1, most + 1, -HUGE, HUGE))


def chance_call(chance):
    number = chance.choice((0, 1, 1, 2, 3, 3, 3, 4, 4, 4, 4, 5, 6, 7, 8, 9, 10, 11, 12))
    if number == 0:
        return vessel(chance_number(chance, 12))
    if number == 1:
        return fill(chance_number(chance, 2), chance_number(chance, 2))
    if number == 2:
        return drain(chance_number(chance, 2))
    if number == 3:
        return pour(chance_number(chance, 2), chance_number(chance, 2))
    if number == 4:
        p = chance_number(chance, chance.choice((5, 1000)))
        q = chance_number(chance, chance.choice((5, 1000)))
        return some(chance_number(chance, 2), chance_number(chance, 2), p, q)
    if number == 6:
        return strength(chance_number(chance, 2), chance_number(chance, 2))
    if number in (7, 9):
        return [number, chance_number(chance, 1), chance_number(chance, 2), chance_number(chance, 12)]
    if number == 8:
        return can(chance_number(chance, 1))
    if number == 10:
        row = [chance_number(chance, 12) for k in range(chance.randint(0, 12))]
        return check(chance_number(chance, 1), chance_number(chance, 2), chance_number(chance, 12), row)
    return [number]


def chance_line(seed, length):
    chance = random.Random(seed)
    return [vessel(chance.randint(1, 12)) for k in range(chance.randint(0, 3))] + [
        chance_call(chance) for k in range(length - 3)]


def chance_row(chance, model, tap):
    """What can be come to, mostly with something changed."""
    told = [list(contents) for contents, first in model.reach(tap)]
    change = chance.randint(0, 5)
    if change == 0:
        chance.shuffle(told)
    if change == 1:
        told.pop(chance.randrange(len(told)))
    if change == 2:
        told.append([chance.randint(0, 12) for size in model.sizes])
    if change == 3:
        told.append(chance.choice(told))
    row = [content for contents in told for content in contents]
    if change == 4:
        row.insert(chance.randint(0, len(row)), chance_number(chance, 12))
    if change == 5 and row:
        row[chance.randrange(len(row))] = chance_number(chance, 12)
    return row


def riddle_line(seed, length):
    """Contents that are mostly whole numbers, and questions about them; the model goes along to tell good rows."""
    chance = random.Random(seed)
    model = Model()
    calls = [vessel(chance.randint(1, chance.choice((6, 12)))) for k in range(chance.randint(1, 3))]
    for call in calls:
        model.answer(call)
    while len(calls) < length:
        tap, number, other = chance.randint(0, 1), chance.randrange(len(model.sizes)), chance_number(chance, 2)
        n = chance_number(chance, 12)
        call = chance.choice((fill(number, chance.randint(0, 2)), drain(number), pour(number, other),
                              some(number, other, chance.randint(1, 6), 1), some(number, other, 1, 2),
                              way(tap, number, n), can(tap), proof(tap, number, n), None, gcd(), ledger(), state()))
        if call is None and model.whole():
            call = check(tap, number, n, chance_row(chance, model, tap))
        elif call is None:
            call = drain(number)
        model.answer(call)
        calls.append(call)
    return calls


def mixing_line(count):
    """Three kinds in three vessels, and then mixing by parts with ever other primes below; the state last."""
    calls = [vessel(12), vessel(12), vessel(12), fill(0, 0), some(0, 1, 4, 1), some(0, 2, 4, 1), fill(0, 1),
             some(0, 1, 3, 1), some(0, 2, 1, 1), fill(0, 2)]
    while len(calls) < count - 1:
        k = len(calls)
        a = k % 3
        calls.append(some(a, (a + 1) % 3, 400 + k, PRIMES[k % len(PRIMES)]))
    return calls + [state()]


class FormTest(unittest.TestCase):
    def test_how_many_numbers_then_these(self):
        calls = [5, 0, 5, 0, 13, 1, 0, 2, 5, 3, 0, 0, 6, 0, 2, 2, 0]
        self.assertEqual(answers(calls), [1, 0, 2, 0, 0, 1, -1, 3, 0, 5, 1, 10, 0, 5, 5, 1, 0, 1, 0, 1, 5, 1, 1, -3,
                                          3, 0, 1, 1, 3, 0, 5, 1])

    def test_one_call(self):
        self.assertEqual(answers([5]), [1, 0])
        self.assertEqual(answers([0, 12]), [2, 0, 0])
        self.assertEqual(answers([4, 0, 0, 0, 0]), [1, -1])

    def test_plain_whole_numbers_in_a_plain_list(self):
        for seed in range(20):
            given = answers(joined(chance_line(seed, 60)))
            self.assertIs(type(given), list)
            self.assertEqual({type(number) for number in given}, {int})

    def test_a_new_line_has_no_vessels(self):
        self.assertEqual(ask(fill(0, 0), drain(0), pour(0, 1), some(0, 1, 0, 1), strength(0, 0), state()),
                         [[-1], [-1], [-1], [-1], [-1], [0]])
        self.assertEqual(ask(way(1, 0, 0), can(1), proof(1, 0, 0), check(1, 0, 0, []), gcd(), ledger()),
                         [[-1], [0], [-1], [-1], [0, 0], [0] + [0, 1] * 6])

    def test_answers_to_the_end_without_lengths(self):
        calls = [0, 6, 0, 4, 7, 1, 0, 2, 7, 1, 0, 3, 8, 1, 9, 0, 0, 1, 10, 0, 0, 1, 2, 0, 0, 11, 9, 0, 0, 0]
        self.assertEqual(answers(calls), [2, 0, 0, 2, 0, 1, 4, 0, 1, 0, 4, 2, 0, 0, 5, 0, 0, 2, 4, 6, 3, 0, 0, 0,
                                          2, 0, 1, 2, 0, 2, 1, -4])


class RefusalTest(unittest.TestCase):
    def test_all_is_as_it_was(self):
        before = [vessel(12), vessel(5), vessel(7), fill(1, 0), pour(1, 0), fill(2, 1), some(2, 0, 7, 3), fill(1, 2)]
        refused = [
            (vessel(0), -1), (vessel(13), -1), (vessel(4), -5), (fill(3, 0), -1), (fill(0, 3), -1), (fill(0, -1), -1),
            (drain(3), -1), (drain(-1), -1), (pour(0, 0), -3), (pour(0, 3), -1), (pour(3, 0), -1), (pour(-1, -1), -1),
            (some(0, 0, 1, 1), -3), (some(0, 1, 1, 1000), -4), (some(2, 0, 900, 100), -4), (some(0, 2, 3, 1), -4),
            (some(0, 2, 1001, 1), -1), (some(0, 2, -1, 1), -1), (some(0, 2, 1, 0), -1), (some(0, 2, 1, 1001), -1),
            (strength(0, 3), -1), (strength(3, 0), -1),
            (way(1, 0, 3), -6), (way(1, 0, 13), -1), (can(0), -6), (can(2), -1), (proof(0, 0, 3), -6),
            (proof(0, -1, 3), -1), (check(0, 0, 3, [0, 0, 0]), -6), (check(0, 0, 3, [0, 0]), -1),
        ]
        for call, refusal in refused:
            given = ask(*before, state(), ledger(), call, state(), ledger())
            self.assertEqual(given[-3], [refusal], call)
            self.assertEqual(given[-5:-3], given[-2:], call)
        every = ask(*before, state(), *[call for call, refusal in refused], state())
        self.assertEqual(every[len(before)], every[-1])
        self.assertEqual(every[len(before) + 1:-1], [[refusal] for call, refusal in refused])

    def test_what_follows_is_as_without_it(self):
        for seed in range(30):
            calls = chance_line(seed, 50)
            given = ask(*calls)
            kept = [call for call, answer in zip(calls, given) if answer[0] == 0]
            if kept:
                self.assertEqual(ask(*kept), [answer for answer in given if answer[0] == 0])


class ModelTest(unittest.TestCase):
    def test_lines_by_chance(self):
        for seed in range(300):
            calls = chance_line(seed, 80)
            self.assertTrue(answers(joined(calls)) == model_answers(calls), seed)

    def test_long_lines_by_chance(self):
        for seed in range(1000, 1010):
            calls = chance_line(seed, 200)
            self.assertTrue(answers(joined(calls)) == model_answers(calls), seed)


    def test_riddles_by_chance(self):
        seen = {}
        for seed in range(150):
            calls = riddle_line(seed, 40)
            given = answers(joined(calls))
            self.assertTrue(given == model_answers(calls), seed)
            for call, answer in zip(calls, parted(given)):
                form = (call[0], *answer[:2]) if call[0] in (7, 10) else (call[0], answer[0])
                seen[form] = seen.get(form, 0) + 1
        # Chance must have brought each of these, or the comparison says little.
        for form in ((7, 0, 1), (7, 0, 0), (7, -1), (7, -6), (8, 0), (8, -6), (9, 0), (9, -4), (9, -6), (9, -1),
                     (10, 0, 1), (10, 0, 0), (10, -1), (11, 0), (12, 0)):
            self.assertGreater(seen.get(form, 0), 9, form)

    def test_all_beginnings_of_two_small_vessels(self):
        for a in range(1, 5):
            for b in range(1, 5):
                for x in range(b + 1):
                    before = [vessel(a), vessel(b), fill(1, 0)]
                    # What's too much of vessel 1 goes away through vessel 0.
                    before += [call for k in range(b - x) for call in (some(1, 0, 1, 1), drain(0))]
                    calls = before + [call for tap in (0, 1) for number in (0, 1) for n in range(6)
                                      for call in (way(tap, number, n), proof(tap, number, n))] + [can(0), can(1)]
                    self.assertEqual(answers(joined(calls)), model_answers(calls))


class QuestionsTest(unittest.TestCase):
    """The calls that ask: they leave all as it was."""

    def test_all_is_as_it_was(self):
        whole = [vessel(12), vessel(5), vessel(7), fill(1, 0), pour(1, 0), fill(2, 1), some(2, 0, 3, 1), fill(1, 2),
                 drain(1)]
        for before in (whole, whole + [some(0, 1, 7, 3)]):
            asked = [way(1, 0, 4), way(0, 2, 4), way(0, 1, 12), can(0), can(1), proof(1, 1, 12), proof(0, 1, 12),
                     check(1, 0, 4, [8, 0, 4]), check(0, 1, 12, [8, 0, 4, 12, 12, 12]), gcd(), ledger(), state(),
                     strength(0, 0), strength(1, 1), strength(2, 2)]
            for call in asked:
                given = ask(*before, state(), ledger(), call, state(), ledger(), call)
                self.assertEqual(given[-6:-4], given[-3:-1], call)
                self.assertEqual(given[-4], given[-1], call)
            apart = [ask(*before, call)[-1] for call in asked]
            self.assertEqual(ask(*before, *asked)[len(before):], apart)
            self.assertEqual(ask(*before, *asked[::-1])[len(before):], apart[::-1])

    def test_a_new_vessel_counts_at_once(self):
        given = ask(vessel(5), can(1), way(1, 0, 2), gcd(), vessel(3), can(1), way(1, 0, 2), gcd())
        self.assertEqual(given[1:4], [[0, 0, 5], [0, 0], [0, 5]])
        self.assertEqual(given[5:], [[0, 0, 1, 2, 3, 4, 5], [0, 1, 0, 4], [0, 1]])

    def test_what_was_done_counts_at_once(self):
        given = ask(vessel(5), vessel(3), can(0), fill(0, 0), can(0), pour(0, 1), drain(1), can(0), drain(0), can(0))
        self.assertEqual([given[2], given[4], given[7], given[9]], [[0, 0], [0, 0, 2, 3, 5], [0, 0, 2], [0, 0]])


class GoodTimeTest(unittest.TestCase):
    # Each takes a second or two at most; what is asked of a slow machine is only that it ends.
    MOST_SECONDS = 30

    def timed(self, calls):
        self.assertLessEqual(len(calls), 200)
        self.assertLessEqual(sum(call[0] == 9 for call in calls), 50)
        line = joined(calls)
        self.assertLessEqual(len(line), 17000)
        begun = time.process_time()
        given = answers(line)
        self.assertLess(time.process_time() - begun, self.MOST_SECONDS)
        self.assertLess(len(given), 1000000)
        return parted(given)

    def line_of_questions(self, before, number, n):
        """50 proofs, checks with as long rows as there's place for, and of the 200 calls the rest can and way."""
        row = ask(*before, proof(1, number, n))[-1][1:]
        longest = (row * 7000)[:7000 // len(row) * len(row)]
        calls = before + [proof(1, number, n)] * 50 + [check(1, number, n, longest)] * 2
        while len(joined(calls)) + 1500 + len(row) < 17000 and len(calls) < 150:
            calls.append(check(1, number, n, row))
        calls += [gcd(), ledger(), state(), strength(0, 0)]
        while len(calls) < 199:
            calls += [way(1, number, n), can(1), way(0, number, n), can(0)][:199 - len(calls)]
        return calls + [pour(1, 0)]

    def test_three_vessels_of_12(self):
        # With 9, 11 and 7 in them.
        before = [vessel(12), vessel(12), vessel(12), fill(0, 0), some(0, 1, 11, 1), fill(0, 1), some(0, 2, 4, 1),
                  drain(0), fill(0, 2), some(0, 2, 3, 1)]
        self.assertEqual(len(ask(*before, proof(1, 0, 5))[-1]), 1 + 3 * 165)
        calls = self.line_of_questions(before, 0, 5)
        self.assertEqual(len(calls), 200)
        self.assertEqual({call[0] for call in calls}, set(range(13)))
        given = self.timed(calls)
        self.assertTrue(given == parted(model_answers(calls)))

    def test_three_vessels_with_the_most_to_come_to(self):
        before = [vessel(12), vessel(12), vessel(11), fill(1, 0), some(1, 0, 9, 1), fill(1, 0), some(1, 2, 7, 1),
                  fill(1, 0), some(1, 0, 1, 1)]
        given = self.timed(self.line_of_questions(before, 2, 12))
        self.assertEqual(len(given), 200)
        self.assertEqual({len(answer) for answer in given[9:59]}, {1 + 3 * 819})
        self.assertEqual({tuple(answer) for answer in given[59:61]}, {(0, 1)})

    def test_other_contents_each_time(self):
        calls = [vessel(12), vessel(12), vessel(11), fill(0, 0), some(0, 1, 5, 1), some(0, 2, 4, 1)]
        while len(calls) < 199:
            k = len(calls)
            calls += [some(k % 3, (k + 1) % 3, 1, 1), proof(1, 2, 12) if k < 106 else way(1, 2, 12)]
        given = self.timed(calls)
        self.assertNotIn([-6], given)

    def test_a_ledger_of_many_digits(self):
        calls = []
        for call in mixing_line(100):
            calls += [call, ledger()]
        given = self.timed(calls)
        self.assertTrue(all(answer[7:] == [0, 1] * 3 for answer in given[1::2]))
        calls = mixing_line(150)[:-1]
        for k in range(10):
            calls += [drain(k % 3), ledger(), some((k + 1) % 3, k % 3, 1, 7 + k), fill((k + 1) % 3, k % 2), ledger()]
        self.assertTrue(self.timed(calls) == parted(model_answers(calls)))


class ManyDigitsTest(unittest.TestCase):
    def test_200_calls(self):
        calls = mixing_line(200)
        self.assertEqual(len(calls), 200)
        given = answers(joined(calls))
        # assertEqual would show the numbers, and Python shows none of so many digits.
        self.assertTrue(given == model_answers(calls))
        self.assertGreater(max(given).bit_length(), 10000)

    def test_lowest_terms_to_the_end(self):
        calls = mixing_line(120) + [strength(k, kind) for k in range(3) for kind in range(3)]
        given = parted(answers(joined(calls)))
        told = given[119]
        fractions = [told[at:at + 2] for v in range(3) for at in range(2 + 9 * v, 10 + 9 * v, 2)]
        fractions += [answer[1:] for answer in given[120:]]
        self.assertEqual(len(fractions), 21)
        for above, below in fractions:
            self.assertTrue(below > 0 and math.gcd(above, below) == 1)

    def test_asked_between_mixing(self):
        calls = mixing_line(50)
        asked = []
        for k, call in enumerate(calls):
            asked += [call, strength(k % 3, k // 3 % 3), state(), strength((k + 1) % 3, k % 3)]
        self.assertEqual(len(asked), 200)
        self.assertTrue(answers(joined(asked)) == model_answers(asked))

    def test_pouring_to_and_fro(self):
        calls = [vessel(12), vessel(11), vessel(7), fill(0, 0), fill(1, 1), fill(2, 2), drain(2)]
        while len(calls) < 199:
            calls.append(pour((0, 2, 1, 2)[len(calls) % 4], (2, 1, 2, 0)[len(calls) % 4]))
        calls.append(state())
        self.assertTrue(answers(joined(calls)) == model_answers(calls))


class NothingKeptTest(unittest.TestCase):
    def test_what_is_handed_in_is_as_it_was(self):
        for seed in range(50):
            for calls in (joined(chance_line(seed, 60)), joined(riddle_line(seed, 20))):
                handed = list(calls)
                answers(handed)
                self.assertEqual(handed, calls)

    def test_it_is_not_changed_for_a_while_either(self):
        for seed in range(50):
            for calls in (joined(chance_line(seed, 60)), joined(riddle_line(seed, 20))):
                self.assertTrue(answers(Watched(calls)) == answers(calls))

    def test_the_same_again_with_others_between(self):
        lines = [joined(chance_line(seed, 60)) for seed in range(20)]
        lines += [joined(riddle_line(seed, 30)) for seed in range(20)]
        once = [answers(line) for line in lines]
        again = [answers(line) for line in reversed(lines)]
        self.assertTrue(once == again[::-1])

    def test_what_is_given_back_is_new(self):
        line = joined([vessel(5), fill(0, 0), state()])
        first = answers(line)
        kept = list(first)
        first.clear()
        self.assertEqual(answers(line), kept)

    def test_nothing_is_printed_or_imported(self):
        calls = joined(chance_line(7, 200)[:160] + riddle_line(7, 40))
        known = set(sys.modules)
        out, err = io.StringIO(), io.StringIO()
        with contextlib.redirect_stdout(out), contextlib.redirect_stderr(err):
            answers(calls)
        self.assertEqual((out.getvalue(), err.getvalue()), ("", ""))
        self.assertEqual(set(sys.modules), known)

    def test_no_deep_nesting(self):
        riddle = [vessel(12), vessel(12), vessel(11), way(1, 2, 10), proof(1, 2, 12), can(1),
                  check(1, 2, 12, [0] * 6999)]
        lines = [joined(mixing_line(199) + [ledger()]), joined(riddle)]
        usual = sys.getrecursionlimit()
        sys.setrecursionlimit(len(inspect.stack()) + 40)
        try:
            for line in lines:
                answers(line)
        finally:
            sys.setrecursionlimit(usual)


if __name__ == "__main__":
    unittest.main()
