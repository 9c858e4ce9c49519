"""The calls 0 to 6, one class for each: ordinary inputs, edges, refusals."""

import unittest
from fractions import Fraction

from tests.measuring import HUGE, ask, drain, fill, last, pour, shown, some, state, strength, vessel

NOTHING = [0, 1]


def held(size, *amounts):
    """How state tells one vessel."""
    return [size] + shown(sum(Fraction(x) for x in amounts), *amounts)


# A vessel 0 of 4 with 3 of kind 0 and 1 of kind 1; vessel 1 of 3 is empty.
MIXED = (vessel(4), vessel(3), fill(1, 0), pour(1, 0), fill(0, 1))


class VesselTest(unittest.TestCase):
    def test_numbers_from_0_on(self):
        self.assertEqual(ask(vessel(5), vessel(3), vessel(8)), [[0, 0], [0, 1], [0, 2]])

    def test_every_size_there_is(self):
        for size in range(1, 13):
            self.assertEqual(ask(vessel(size), state()), [[0, 0], [0, size] + NOTHING * 4])

    def test_sizes_out_of_range(self):
        for size in (0, 13, -1, -12, 14, 1000, -HUGE, HUGE, HUGE - 1):
            self.assertEqual(ask(vessel(size), state()), [[-1], [0]], size)

    def test_a_refused_one_has_no_number(self):
        self.assertEqual(ask(vessel(13), vessel(12)), [[-1], [0, 0]])

    def test_a_fourth(self):
        three = (vessel(1), vessel(12), vessel(2))
        self.assertEqual(ask(*three, vessel(1), vessel(12))[3:], [[-5], [-5]])
        empty = held(1, 0, 0, 0) + held(12, 0, 0, 0) + held(2, 0, 0, 0)
        self.assertEqual(last(*three, vessel(4), state()), [0] + empty)

    def test_a_fourth_out_of_range(self):
        for size in (0, 13, -1, -HUGE, HUGE):
            self.assertEqual(last(vessel(1), vessel(1), vessel(1), vessel(size)), [-1], size)


class FillTest(unittest.TestCase):
    def test_an_empty_one(self):
        for kind in range(3):
            amounts = [0, 0, 0]
            amounts[kind] = 5
            self.assertEqual(ask(vessel(5), fill(0, kind), state())[1:], [[0, 5, 1], [0] + held(5, *amounts)])

    def test_one_partly_full_with_another_kind(self):
        given = ask(vessel(5), vessel(3), fill(1, 0), pour(1, 0), fill(0, 2), state())
        self.assertEqual(given[4:], [[0, 2, 1], [0] + held(5, 3, 0, 2) + held(3, 0, 0, 0)])

    def test_one_partly_full_with_the_same_kind(self):
        given = ask(vessel(5), vessel(3), fill(1, 1), pour(1, 0), fill(0, 1), state())
        self.assertEqual(given[4:], [[0, 2, 1], [0] + held(5, 0, 5, 0) + held(3, 0, 0, 0)])

    def test_room_that_is_a_fraction(self):
        given = ask(vessel(5), vessel(3), fill(1, 1), some(1, 0, 6, 4), fill(0, 0), state())
        self.assertEqual(given[4:], [[0, 7, 2], [0] + held(5, Fraction(7, 2), Fraction(3, 2), 0)
                                     + held(3, 0, Fraction(3, 2), 0)])

    def test_a_full_one(self):
        for kind in range(3):
            given = ask(vessel(5), fill(0, 1), fill(0, kind), state())
            self.assertEqual(given[2:], [[0, 0, 1], [0] + held(5, 0, 5, 0)])

    def test_kinds_out_of_range(self):
        for kind in (-1, 3, 4, -3, -HUGE, HUGE):
            self.assertEqual(ask(vessel(5), fill(0, kind), state())[1:], [[-1], [0] + held(5, 0, 0, 0)], kind)

    def test_vessels_that_there_are_not(self):
        for number in (-1, 1, 2, 3, -HUGE, HUGE):
            self.assertEqual(ask(vessel(5), fill(number, 0), state())[1:], [[-1], [0] + held(5, 0, 0, 0)], number)
        self.assertEqual(last(fill(0, 0)), [-1])
        self.assertEqual(last(vessel(1), vessel(1), vessel(1), fill(3, 0)), [-1])
        self.assertEqual(last(vessel(1), fill(1, 3)), [-1])


class DrainTest(unittest.TestCase):
    def test_a_full_one(self):
        self.assertEqual(ask(vessel(7), fill(0, 2), drain(0), state())[2:], [[0, 7, 1], [0] + held(7, 0, 0, 0)])

    def test_a_mixed_one(self):
        given = ask(*MIXED, some(0, 1, 1, 3), drain(0), state())
        self.assertEqual(given[6:], [[0, 11, 3], [0] + held(4, 0, 0, 0) + held(3, Fraction(1, 4), Fraction(1, 12), 0)])

    def test_an_empty_one(self):
        self.assertEqual(ask(vessel(7), drain(0), state())[1:], [[0, 0, 1], [0] + held(7, 0, 0, 0)])
        self.assertEqual(last(vessel(7), fill(0, 2), drain(0), drain(0)), [0, 0, 1])

    def test_it_can_be_filled_again(self):
        self.assertEqual(last(vessel(7), fill(0, 2), drain(0), fill(0, 0), state()), [0] + held(7, 7, 0, 0))

    def test_vessels_that_there_are_not(self):
        for number in (-1, 1, 2, 3, -HUGE, HUGE):
            self.assertEqual(ask(vessel(7), fill(0, 1), drain(number), state())[2:], [[-1], [0] + held(7, 0, 7, 0)])
        self.assertEqual(last(drain(0)), [-1])


class PourTest(unittest.TestCase):
    def test_content_less_than_room(self):
        given = ask(vessel(3), vessel(5), fill(0, 1), pour(0, 1), state())
        self.assertEqual(given[3:], [[0, 3, 1], [0] + held(3, 0, 0, 0) + held(5, 0, 3, 0)])

    def test_content_more_than_room(self):
        given = ask(vessel(5), vessel(3), fill(0, 1), pour(0, 1), state())
        self.assertEqual(given[3:], [[0, 3, 1], [0] + held(5, 0, 2, 0) + held(3, 0, 3, 0)])

    def test_content_and_room_alike(self):
        given = ask(vessel(5), vessel(5), fill(0, 1), pour(0, 1), state())
        self.assertEqual(given[3:], [[0, 5, 1], [0] + held(5, 0, 0, 0) + held(5, 0, 5, 0)])

    def test_out_of_an_empty_one(self):
        given = ask(vessel(5), vessel(3), pour(0, 1), fill(1, 2), pour(0, 1), state())
        self.assertEqual([given[2], given[4]], [[0, 0, 1], [0, 0, 1]])
        self.assertEqual(given[5], [0] + held(5, 0, 0, 0) + held(3, 0, 0, 3))

    def test_into_a_full_one(self):
        given = ask(vessel(5), vessel(3), fill(0, 0), fill(1, 2), pour(0, 1), state())
        self.assertEqual(given[4:], [[0, 0, 1], [0] + held(5, 5, 0, 0) + held(3, 0, 0, 3)])

    def test_the_riddle(self):
        given = ask(vessel(5), vessel(3), fill(0, 0), pour(0, 1), drain(1), pour(0, 1), fill(0, 0), pour(0, 1), state())
        self.assertEqual(given[8], [0] + held(5, 4, 0, 0) + held(3, 3, 0, 0))

    def test_of_each_kind_the_same_part(self):
        # 3 and 1 of 4 are in it; 3 go over.
        given = ask(*MIXED, pour(0, 1), state())
        self.assertEqual(given[5], [0, 3, 1])
        self.assertEqual(given[6], [0] + held(4, Fraction(3, 4), Fraction(1, 4), 0)
                         + held(3, Fraction(9, 4), Fraction(3, 4), 0))

    def test_three_kinds_there_and_back(self):
        calls = (vessel(12), vessel(5), vessel(7), fill(1, 0), pour(1, 0), fill(1, 1), pour(1, 0), fill(0, 2))
        given = ask(*calls, pour(0, 2), fill(1, 0), pour(2, 1), drain(1), pour(2, 1), pour(0, 1), state())
        # 5, 5 and 2 of 12 are mixed; 7 of it go over, 5 stay; the full vessel 1 takes nothing until it is empty.
        self.assertEqual(given[8:14], [[0, 7, 1], [0, 5, 1], [0, 0, 1], [0, 5, 1], [0, 5, 1], [0, 0, 1]])
        five = [Fraction(25, 12), Fraction(25, 12), Fraction(10, 12)]
        two = [Fraction(10, 12), Fraction(10, 12), Fraction(4, 12)]
        self.assertEqual(given[14], [0] + held(12, *five) + held(5, *five) + held(7, *two))

    def test_one_vessel(self):
        self.assertEqual(ask(vessel(5), fill(0, 0), pour(0, 0), state())[2:], [[-3], [0] + held(5, 5, 0, 0)])
        self.assertEqual(last(vessel(5), pour(0, 0)), [-3])

    def test_vessels_that_there_are_not(self):
        for a, b in ((0, 2), (2, 0), (-1, 0), (0, -1), (2, 3), (HUGE, 0), (0, -HUGE)):
            given = ask(vessel(5), vessel(3), fill(0, 0), pour(a, b), state())
            self.assertEqual(given[3:], [[-1], [0] + held(5, 5, 0, 0) + held(3, 0, 0, 0)], (a, b))

    def test_one_vessel_that_there_is_not(self):
        for number in (-1, 2, 3, -HUGE, HUGE):
            self.assertEqual(last(vessel(5), vessel(3), pour(number, number)), [-1], number)
        self.assertEqual(last(pour(0, 0)), [-1])


class SomeTest(unittest.TestCase):
    def test_a_part_of_each_kind(self):
        # 2 / 3 of 4 is a sixth of it.
        given = ask(*MIXED, some(0, 1, 2, 3), state())
        self.assertEqual(given[5:], [[0, 2, 3], [0] + held(4, Fraction(5, 2), Fraction(5, 6), 0)
                                     + held(3, Fraction(1, 2), Fraction(1, 6), 0)])

    def test_nothing(self):
        for q in (1, 2, 1000):
            self.assertEqual(last(vessel(5), vessel(3), fill(0, 0), some(0, 1, 0, q)), [0] + NOTHING)
        self.assertEqual(last(vessel(5), vessel(3), some(0, 1, 0, 7)), [0] + NOTHING)
        given = ask(vessel(5), vessel(3), fill(0, 0), fill(1, 1), some(0, 1, 0, 7), state())
        self.assertEqual(given[4:], [[0] + NOTHING, [0] + held(5, 5, 0, 0) + held(3, 0, 3, 0)])

    def test_not_in_lowest_terms(self):
        calls = (some(0, 1, 500, 1000), some(0, 1, 6, 4), some(0, 1, 9, 9))
        given = ask(vessel(5), vessel(3), fill(0, 0), *calls, state())
        self.assertEqual(given[3:6], [[0, 1, 2], [0, 3, 2], [0, 1, 1]])
        self.assertEqual(given[6], [0] + held(5, 2, 0, 0) + held(3, 3, 0, 0))

    def test_the_ends_of_p_and_q(self):
        self.assertEqual(last(vessel(5), vessel(3), fill(0, 0), some(0, 1, 1000, 1000)), [0, 1, 1])
        self.assertEqual(last(vessel(5), vessel(3), fill(0, 0), some(0, 1, 1, 1)), [0, 1, 1])
        self.assertEqual(last(vessel(5), vessel(3), fill(0, 0), some(0, 1, 1, 1000)), [0, 1, 1000])
        self.assertEqual(last(vessel(5), vessel(3), fill(0, 0), some(0, 1, 1000, 1)), [-4])

    def test_just_the_content(self):
        given = ask(vessel(3), vessel(5), fill(0, 1), some(0, 1, 3, 1), state())
        self.assertEqual(given[3:], [[0, 3, 1], [0] + held(3, 0, 0, 0) + held(5, 0, 3, 0)])
        given = ask(vessel(3), vessel(5), fill(0, 1), some(0, 1, 5, 3), some(0, 1, 4, 3), state())
        self.assertEqual(given[4:], [[0, 4, 3], [0] + held(3, 0, 0, 0) + held(5, 0, 3, 0)])

    def test_just_the_room(self):
        given = ask(vessel(5), vessel(3), fill(0, 1), some(0, 1, 3, 1), state())
        self.assertEqual(given[3:], [[0, 3, 1], [0] + held(5, 0, 2, 0) + held(3, 0, 3, 0)])
        given = ask(vessel(5), vessel(3), fill(0, 1), some(0, 1, 5, 3), some(0, 1, 4, 3), state())
        self.assertEqual(given[4:], [[0, 4, 3], [0] + held(5, 0, 2, 0) + held(3, 0, 3, 0)])

    def test_a_little_more_than_the_content(self):
        for p, q in ((4, 1), (301, 100), (1000, 333), (997, 332)):
            given = ask(vessel(3), vessel(5), fill(0, 1), some(0, 1, p, q), state())
            self.assertEqual(given[3:], [[-4], [0] + held(3, 0, 3, 0) + held(5, 0, 0, 0)], (p, q))
        self.assertEqual(last(vessel(3), vessel(5), some(0, 1, 1, 1000)), [-4])

    def test_a_little_more_than_the_room(self):
        for p, q in ((4, 1), (301, 100), (1000, 333), (997, 332)):
            given = ask(vessel(5), vessel(3), fill(0, 1), some(0, 1, p, q), state())
            self.assertEqual(given[3:], [[-4], [0] + held(5, 0, 5, 0) + held(3, 0, 0, 0)], (p, q))
        self.assertEqual(last(vessel(5), vessel(3), fill(0, 1), fill(1, 1), some(0, 1, 1, 1000)), [-4])

    def test_numbers_out_of_range(self):
        for p, q in ((1001, 1000), (-1, 1), (1, 0), (1, 1001), (0, 0), (0, -1), (-1, -1), (HUGE, HUGE), (1, -HUGE),
                     (-HUGE, 1), (HUGE, 1), (0, HUGE)):
            given = ask(vessel(5), vessel(3), fill(0, 0), some(0, 1, p, q), state())
            self.assertEqual(given[3:], [[-1], [0] + held(5, 5, 0, 0) + held(3, 0, 0, 0)], (p, q))

    def test_vessels_that_there_are_not(self):
        for a, b in ((0, 2), (2, 0), (-1, 0), (0, -1), (2, 2), (-1, -1), (HUGE, 0), (0, -HUGE)):
            given = ask(vessel(5), vessel(3), fill(0, 0), some(a, b, 1, 1), state())
            self.assertEqual(given[3:], [[-1], [0] + held(5, 5, 0, 0) + held(3, 0, 0, 0)], (a, b))

    def test_one_vessel(self):
        for p in (0, 1):
            given = ask(vessel(5), vessel(3), fill(1, 0), some(1, 1, p, 1), state())
            self.assertEqual(given[3:], [[-3], [0] + held(5, 0, 0, 0) + held(3, 3, 0, 0)])

    def test_the_refusal_nearest_to_0(self):
        # -3 and -4: more than there is, from a vessel into itself.
        self.assertEqual(last(vessel(5), some(0, 0, 9, 1)), [-3])
        # -1 and -3, -1 and -4, all three.
        self.assertEqual(last(vessel(5), fill(0, 0), some(0, 0, 1, 0)), [-1])
        self.assertEqual(last(vessel(5), some(0, 0, 1001, 1)), [-1])
        self.assertEqual(last(vessel(5), vessel(3), some(0, 1, 1001, 1)), [-1])
        self.assertEqual(last(vessel(5), vessel(3), some(0, 2, 1000, 1)), [-1])
        self.assertEqual(last(vessel(5), some(7, 7, 1000, 1)), [-1])
        self.assertEqual(last(some(0, 0, 0, 1)), [-1])


class StateTest(unittest.TestCase):
    def test_no_vessel(self):
        self.assertEqual(ask(state()), [[0]])

    def test_empty_vessels(self):
        self.assertEqual(last(vessel(5), vessel(3), state()), [0] + held(5, 0, 0, 0) + held(3, 0, 0, 0))

    def test_after_mixing(self):
        # 6 of kind 1 and 6 of kind 2; 2 / 3 of it goes over, where 16 / 3 of kind 0 come to it; a ninth goes back.
        calls = (vessel(12), vessel(6), fill(1, 1), pour(1, 0), fill(0, 2), some(0, 1, 4, 6), fill(1, 0), pour(1, 0))
        self.assertEqual(ask(*calls)[5:], [[0, 2, 3], [0, 16, 3], [0, 2, 3]])
        self.assertEqual(last(*calls, state()),
                         [0, 12, 12, 1, 16, 27, 154, 27, 154, 27, 6, 16, 3, 128, 27, 8, 27, 8, 27])

    def test_a_whole_number_has_1_below_and_nothing_is_0_1(self):
        calls = (vessel(4), vessel(2), fill(1, 0), pour(1, 0), fill(0, 1), some(0, 1, 1, 2), some(0, 1, 3, 2))
        given = last(*calls, state())
        self.assertEqual(given, [0, 4, 2, 1, 1, 1, 1, 1, 0, 1, 2, 2, 1, 1, 1, 1, 1, 0, 1])

    def test_it_changes_nothing(self):
        given = ask(*MIXED, state(), state(), state())
        self.assertEqual(given[5], given[6])
        self.assertEqual(given[6], given[7])


class StrengthTest(unittest.TestCase):
    def test_one_kind_alone(self):
        given = ask(vessel(5), fill(0, 1), strength(0, 0), strength(0, 1), strength(0, 2))
        self.assertEqual(given[2:], [[0, 0, 1], [0, 1, 1], [0, 0, 1]])

    def test_a_mixture(self):
        given = ask(*MIXED, strength(0, 0), strength(0, 1), strength(0, 2))
        self.assertEqual(given[5:], [[0, 3, 4], [0, 1, 4], [0, 0, 1]])

    def test_what_is_taken_out_is_as_strong(self):
        given = ask(*MIXED, some(0, 1, 5, 7), strength(0, 0), strength(1, 0), strength(1, 1), strength(1, 2))
        self.assertEqual(given[6:], [[0, 3, 4], [0, 3, 4], [0, 1, 4], [0, 0, 1]])

    def test_a_content_that_is_a_fraction(self):
        given = ask(vessel(5), vessel(3), fill(1, 0), some(1, 0, 1, 3), fill(0, 1), strength(0, 0), strength(0, 1))
        self.assertEqual(given[5:], [[0, 1, 15], [0, 14, 15]])

    def test_it_changes_nothing(self):
        given = ask(*MIXED, state(), strength(0, 0), strength(1, 0), strength(0, 3), state())
        self.assertEqual(given[5], given[9])

    def test_an_empty_vessel(self):
        for kind in range(3):
            self.assertEqual(last(vessel(5), strength(0, kind)), [-4])
            self.assertEqual(last(vessel(5), fill(0, kind), drain(0), strength(0, kind)), [-4])
            self.assertEqual(last(vessel(5), vessel(6), fill(0, kind), pour(0, 1), strength(0, kind)), [-4])

    def test_out_of_range(self):
        for number, kind in ((0, 3), (0, -1), (1, 0), (-1, 0), (2, 3), (0, HUGE), (0, -HUGE), (HUGE, 0), (-HUGE, 0)):
            self.assertEqual(last(vessel(5), fill(0, 0), strength(number, kind)), [-1], (number, kind))

    def test_out_of_range_of_an_empty_vessel(self):
        for number, kind in ((0, 3), (0, -1), (1, 0), (-1, 0), (0, HUGE), (0, -HUGE)):
            self.assertEqual(last(vessel(5), strength(number, kind)), [-1], (number, kind))
        self.assertEqual(last(strength(0, 0)), [-1])


if __name__ == "__main__":
    unittest.main()
