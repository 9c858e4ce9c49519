"""The calls 11 and 12, one class for each: what measures all sizes, and what was put in and is gone."""

import math
import unittest
from fractions import Fraction

from tests.measuring import (HUGE, ask, can, check, drain, fill, gcd, last, ledger, pour, proof, shown, some, state,
                             strength, vessel, way)


def book(put_in, gone):
    """How ledger tells what was put in and what is gone, each of the three kinds."""
    return [0] + shown(*put_in, *gone)


NOTHING = (0, 0, 0)
# Vessel 0 of 4 has 3 of kind 0 and 1 of kind 1; vessel 1 of 3 is empty.
MIXED = (vessel(4), vessel(3), fill(1, 0), pour(1, 0), fill(0, 1))


class GcdTest(unittest.TestCase):
    def test_no_vessel(self):
        self.assertEqual(last(gcd()), [0, 0])
        self.assertEqual(last(vessel(13), gcd()), [0, 0])

    def test_one(self):
        for size in range(1, 13):
            self.assertEqual(last(vessel(size), gcd()), [0, size])

    def test_two(self):
        for a in range(1, 13):
            for b in range(1, 13):
                self.assertEqual(last(vessel(a), vessel(b), gcd()), [0, math.gcd(a, b)])

    def test_three(self):
        for a in range(1, 13):
            for b in range(1, 13):
                for c in (1, 4, 6, 8, 9, 10, 12):
                    self.assertEqual(last(vessel(a), vessel(b), vessel(c), gcd()), [0, math.gcd(a, b, c)])

    def test_what_is_in_them_does_not_matter(self):
        calls = (vessel(8), vessel(12), fill(0, 0), some(0, 1, 5, 3), gcd())
        self.assertEqual(last(*calls), [0, 4])

    def test_a_refused_vessel_does_not_count(self):
        self.assertEqual(last(vessel(8), vessel(12), vessel(4), vessel(1), gcd()), [0, 4])


class LedgerTest(unittest.TestCase):
    def test_at_the_beginning(self):
        self.assertEqual(ask(ledger()), [[0, 0, 1, 0, 1, 0, 1, 0, 1, 0, 1, 0, 1]])
        self.assertEqual(last(vessel(5), ledger()), [0] + [0, 1] * 6)

    def test_fillings_of_several_kinds(self):
        for kind in range(3):
            put_in = [0, 0, 0]
            put_in[kind] = 5
            self.assertEqual(last(vessel(5), fill(0, kind), ledger()), book(put_in, NOTHING))
        calls = (vessel(5), vessel(3), vessel(7), fill(0, 2), fill(1, 0), fill(2, 1))
        self.assertEqual(last(*calls, ledger()), book((3, 7, 5), NOTHING))

    def test_filling_a_full_one(self):
        self.assertEqual(last(vessel(5), fill(0, 1), fill(0, 1), fill(0, 2), ledger()), book((0, 5, 0), NOTHING))

    def test_filling_one_partly_full(self):
        self.assertEqual(last(*MIXED, ledger()), book((3, 1, 0), NOTHING))
        calls = (vessel(5), vessel(3), fill(1, 1), some(1, 0, 6, 4), fill(0, 2), fill(1, 1))
        self.assertEqual(last(*calls, ledger()), book((0, Fraction(9, 2), Fraction(7, 2)), NOTHING))

    def test_draining_one_kind(self):
        calls = (vessel(5), fill(0, 2), drain(0))
        self.assertEqual(last(*calls, ledger()), book((0, 0, 5), (0, 0, 5)))
        self.assertEqual(last(*calls, fill(0, 2), drain(0), fill(0, 0), ledger()), book((5, 0, 10), (0, 0, 10)))

    def test_draining_mixed_ones(self):
        self.assertEqual(last(*MIXED, drain(0), ledger()), book((3, 1, 0), (3, 1, 0)))
        # Of 4, 3 and 1 of the kinds, 1 / 3 goes over.
        calls = (*MIXED, some(0, 1, 1, 3))
        self.assertEqual(last(*calls, drain(1), ledger()), book((3, 1, 0), (Fraction(1, 4), Fraction(1, 12), 0)))
        self.assertEqual(last(*calls, drain(0), ledger()), book((3, 1, 0), (Fraction(11, 4), Fraction(11, 12), 0)))
        self.assertEqual(last(*calls, drain(0), drain(1), ledger()), book((3, 1, 0), (3, 1, 0)))
        self.assertEqual(last(*calls, drain(1), fill(1, 2), drain(1), ledger()),
                         book((3, 1, 3), (Fraction(1, 4), Fraction(1, 12), 3)))

    def test_draining_empty_ones(self):
        self.assertEqual(last(vessel(5), drain(0), ledger()), book(NOTHING, NOTHING))
        self.assertEqual(last(*MIXED, drain(1), ledger()), book((3, 1, 0), NOTHING))
        self.assertEqual(last(*MIXED, drain(0), drain(0), drain(1), ledger()), book((3, 1, 0), (3, 1, 0)))

    def test_refused_calls_change_nothing(self):
        before = (*MIXED, some(0, 1, 1, 3), drain(1))
        refused = (vessel(13), vessel(0), fill(2, 0), fill(0, 3), fill(-1, 0), fill(0, -1), drain(2), drain(-1),
                   drain(HUGE), pour(0, 0), pour(0, 2), some(0, 1, 4, 1), some(0, 0, 1, 1), some(0, 1, 1, 0),
                   strength(1, 0), way(1, 0, 3), can(0), proof(1, 0, 3), check(1, 0, 3, [0, 0]), way(2, 0, 0), can(2),
                   proof(0, 3, 0), check(0, 0, 0, [13, 0]))
        expected = book((3, 1, 0), (Fraction(1, 4), Fraction(1, 12), 0))
        for call in refused:
            given = ask(*before, call, ledger())
            self.assertLess(given[-2][0], 0, call)
            self.assertEqual(given[-1], expected, call)
        self.assertEqual(last(*before, *refused, ledger()), expected)

    def test_pouring_changes_nothing(self):
        calls = MIXED
        for call in (pour(0, 1), some(1, 0, 7, 5), pour(1, 0), pour(0, 1), some(0, 1, 0, 1), pour(1, 0), pour(1, 0)):
            calls = (*calls, call)
            given = ask(*calls, ledger())
            self.assertEqual(given[-2][0], 0)
            self.assertEqual(given[-1], book((3, 1, 0), NOTHING))

    def test_it_changes_nothing(self):
        given = ask(*MIXED, drain(0), ledger(), state(), ledger(), state(), ledger())
        self.assertEqual(given[6], given[8])
        self.assertEqual(given[6], given[10])
        self.assertEqual(given[7], given[9])

    def test_what_is_put_in_is_there_or_gone(self):
        calls = [vessel(12), vessel(7), vessel(5)]
        for k in range(40):
            a, b, c = k % 3, (k + 1) % 3, (k + 2) % 3
            calls += [fill(a, k % 2 + k % 5 // 4), some(a, b, 1, k + 1), pour(b, c)]
            if k % 4 == 1:
                calls.append(drain(a))
        given = ask(*calls, ledger(), state())
        book_of_all = [Fraction(*given[-2][at:at + 2]) for at in range(1, 13, 2)]
        there = [[Fraction(*given[-1][at:at + 2]) for at in range(4 + 9 * v, 10 + 9 * v, 2)] for v in range(3)]
        for kind in range(3):
            self.assertGreater(book_of_all[3 + kind], 0)
            self.assertEqual(book_of_all[kind], book_of_all[3 + kind] + sum(held[kind] for held in there))


if __name__ == "__main__":
    unittest.main()
