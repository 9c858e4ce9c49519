"""The calls 7 to 10, one class for each: ordinary inputs, edges, refusals."""

import itertools
import unittest

from tests.measuring import (HUGE, ask, can, check, deeds, done, drain, fill, first_ways, last, parted, pour, proof,
                             some, vessel, way)
from vesselriddle.vessels import answers

# Numbers that are no tap, no vessel of two, no amount that may be asked for.
NO_TAP = (-1, 2, 3, -HUGE, HUGE)
NO_VESSEL = (-1, 2, 3, -HUGE, HUGE)
NO_AMOUNT = (-1, 13, 14, -HUGE, HUGE)

FIVE_THREE = (vessel(5), vessel(3))
# Vessel 0 of 8 is full, vessel 1 of 5 and vessel 2 of 3 are empty.
EIGHT = (vessel(8), vessel(5), vessel(3), fill(0, 0))
# A content that is no whole number: in both vessels, and of three in vessel 0 and 1 alone.
BROKEN = (vessel(5), vessel(3), fill(0, 0), some(0, 1, 1, 2))
BROKEN_OTHERS = (vessel(5), vessel(3), vessel(4), fill(0, 0), some(0, 1, 1, 2))


def brought(sizes, contents):
    """Calls that make vessels of these sizes with these contents, of which the first is nothing or the size."""
    calls = [vessel(size) for size in sizes]
    if contents[0] not in (0, sizes[0]):
        raise AssertionError("vessel 0 can be empty or full here")
    for number, content in list(enumerate(contents))[1:]:
        if content > 0:
            # What's too much of it goes away through vessel 0.
            calls.append(fill(number, number % 3))
            spill = sizes[number] - content
            while spill > 0:
                part = min(spill, sizes[0])
                calls += [some(number, 0, part, 1), drain(0)]
                spill -= part
    return calls + [fill(0, 0)] * (contents[0] > 0)


def every_shortest_way(sizes, start, tap, number, n):
    """All ways of the fewest deeds, by trying all rows of deeds."""
    known = list(enumerate(deeds(len(sizes), tap)))
    for count in range(8):
        found = []
        for row in itertools.product(known, repeat=count):
            contents = start
            for place, deed in row:
                contents = done(sizes, contents, deed)
            if contents[number] == n:
                found.append([place for place, deed in row])
        if found:
            return found
    return []


class WayTest(unittest.TestCase):
    def test_the_riddle(self):
        self.assertEqual(last(*FIVE_THREE, way(1, 0, 4)), [0, 1, 0, 4, 3, 4, 0, 4])

    def test_the_riddle_with_the_vessels_the_other_way_round(self):
        self.assertEqual(last(vessel(3), vessel(5), way(1, 1, 4)), [0, 1, 1, 5, 2, 5, 1, 5])

    def test_the_way_leads_there_call_by_call(self):
        for n in range(6):
            given = last(*FIVE_THREE, way(1, 0, n))
            self.assertEqual(given[:2], [0, 1])
            calls = [(fill(0, 0), fill(1, 0), drain(0), drain(1), pour(0, 1), pour(1, 0))[deed] for deed in given[2:]]
            self.assertEqual(last(*FIVE_THREE, *calls, [5])[2:4], [n, 1])

    def test_without_a_tap(self):
        self.assertEqual(last(*EIGHT, way(0, 1, 4)), [0, 1, 0, 3, 4, 3, 0, 3])
        self.assertEqual(last(*EIGHT, way(0, 0, 4)), [0, 1, 0, 3, 4, 3, 0, 3, 4])

    def test_deeds_have_other_numbers_without_a_tap(self):
        self.assertEqual(last(*FIVE_THREE, fill(0, 0), way(0, 0, 2)), [0, 1, 0])
        self.assertEqual(last(*FIVE_THREE, fill(0, 0), way(1, 0, 2)), [0, 1, 4])
        self.assertEqual(last(*FIVE_THREE, fill(1, 0), way(0, 0, 3)), [0, 1, 1])
        self.assertEqual(last(*FIVE_THREE, fill(1, 0), way(1, 0, 3)), [0, 1, 5])

    def test_each_deed_with_a_tap_and_its_number(self):
        empty = (vessel(2), vessel(4), vessel(6))
        for number, size in enumerate((2, 4, 6)):
            self.assertEqual(last(*empty, way(1, number, size)), [0, 1, number])
            self.assertEqual(last(*empty, fill(number, 0), way(1, number, 0)), [0, 1, 3 + number])
        # Each is large enough for what the others have, and has what can't be filled in.
        pairs = [(a, b) for a in range(3) for b in range(3) if a != b]
        for place, (a, b) in enumerate(pairs):
            sizes = [9, 9, 9]
            sizes[a] = 4
            calls = [vessel(size) for size in sizes] + [fill(a, 0)]
            self.assertEqual(last(*calls, way(1, b, 4)), [0, 1, 6 + place], (a, b))
            self.assertEqual(last(*calls, way(0, b, 4)), [0, 1, place], (a, b))

    def test_what_it_has_already(self):
        for tap in (0, 1):
            self.assertEqual(last(*FIVE_THREE, way(tap, 0, 0)), [0, 1])
            self.assertEqual(last(*FIVE_THREE, fill(0, 1), way(tap, 0, 5)), [0, 1])
            self.assertEqual(last(*FIVE_THREE, fill(0, 1), pour(0, 1), way(tap, 0, 2)), [0, 1])
            self.assertEqual(last(*FIVE_THREE, fill(0, 1), pour(0, 1), way(tap, 1, 3)), [0, 1])

    def test_no_way(self):
        self.assertEqual(last(vessel(6), vessel(4), way(1, 0, 3)), [0, 0])
        self.assertEqual(last(vessel(6), vessel(4), vessel(10), way(1, 2, 5)), [0, 0])
        self.assertEqual(last(*FIVE_THREE, way(0, 0, 5)), [0, 0])
        self.assertEqual(last(*FIVE_THREE, fill(0, 0), way(0, 0, 4)), [0, 0])

    def test_one_vessel(self):
        self.assertEqual(last(vessel(5), way(1, 0, 5)), [0, 1, 0])
        self.assertEqual(last(vessel(5), fill(0, 0), way(1, 0, 0)), [0, 1, 1])
        self.assertEqual(last(vessel(5), way(1, 0, 3)), [0, 0])
        self.assertEqual(last(vessel(5), way(0, 0, 5)), [0, 0])
        self.assertEqual(last(vessel(5), fill(0, 0), way(0, 0, 0)), [0, 0])

    def test_more_than_the_size(self):
        for tap in (0, 1):
            for n in (6, 11, 12):
                self.assertEqual(last(*FIVE_THREE, way(tap, 0, n)), [0, 0])
            self.assertEqual(last(*FIVE_THREE, fill(0, 0), way(tap, 1, 5)), [0, 0])
        self.assertEqual(last(vessel(12), way(1, 0, 12)), [0, 1, 0])

    def test_from_contents_that_are_not_empty(self):
        # 4 of 5 and 0 of 3: 1 is left behind one pouring.
        calls = (*FIVE_THREE, fill(1, 2), pour(1, 0), fill(1, 0), some(1, 0, 1, 1), drain(1))
        self.assertEqual(last(*calls, way(1, 0, 1)), [0, 1, 4])
        self.assertEqual(last(*calls, way(0, 0, 1)), [0, 1, 0])
        self.assertEqual(last(*calls, way(0, 1, 4)), [0, 0])

    def test_contents_that_are_whole_again(self):
        self.assertEqual(last(*BROKEN, some(0, 1, 1, 2), way(0, 0, 2)), [0, 1, 0])

    def test_the_kinds_do_not_matter(self):
        for kinds in itertools.product(range(3), repeat=2):
            calls = (*FIVE_THREE, fill(1, kinds[0]), pour(1, 0), fill(1, kinds[1]))
            self.assertEqual(last(*calls, way(1, 1, 1)), [0, 1, 5])

    def test_of_several_the_numbers_decide(self):
        # Fill 0 and pour it into 2, or the same with 1.
        self.assertEqual(last(vessel(3), vessel(3), vessel(7), way(1, 2, 3)), [0, 1, 0, 7])
        # Behind the same first deed: pour it into 1 or into 2.
        self.assertEqual(last(vessel(5), vessel(3), vessel(3), way(1, 0, 2)), [0, 1, 0, 6])

    def test_against_all_rows_of_deeds(self):
        several = 0
        last_decides_otherwise = 0
        for sizes, start in (([5, 3], (0, 0)), ([3, 5], (0, 4)), ([4, 4], (4, 2)), ([2, 2, 3], (0, 1, 2)),
                             ([1, 3, 3], (1, 0, 2)), ([3, 2, 5], (0, 0, 4)), ([4, 7, 3], (0, 5, 0))):
            calls = brought(sizes, start)
            for tap, number, n in itertools.product((0, 1), range(len(sizes)), range(max(sizes) + 1)):
                given = last(*calls, way(tap, number, n))
                # Longer ones, and that there is none, would take too long to find so.
                if given[1] == 1 and len(given) - 2 <= (6 if len(deeds(len(sizes), tap)) < 7 else 4):
                    shortest = every_shortest_way(sizes, start, tap, number, n)
                    self.assertEqual(given[2:], min(shortest), (sizes, start, tap, number, n))
                    several += len(shortest) > 1
                    last_decides_otherwise += min(shortest, key=lambda row: row[::-1]) != min(shortest)
        self.assertGreater(several, 20)
        self.assertGreater(last_decides_otherwise, 5)

    def test_out_of_range(self):
        for number in (0, 1):
            for n in NO_AMOUNT:
                self.assertEqual(last(*FIVE_THREE, way(1, number, n)), [-1], n)
        for tap in NO_TAP:
            self.assertEqual(last(*FIVE_THREE, way(tap, 0, 0)), [-1], tap)
        for number in NO_VESSEL:
            self.assertEqual(last(*FIVE_THREE, way(1, number, 0)), [-1], number)
        self.assertEqual(last(way(1, 0, 0)), [-1])
        self.assertEqual(last(way(0, -1, 0)), [-1])

    def test_a_content_that_is_not_whole(self):
        for tap in (0, 1):
            for number in (0, 1, 2):
                for n in (0, 3, 5, 12):
                    self.assertEqual(last(*BROKEN_OTHERS, way(tap, number, n)), [-6])
        # In the vessel that is asked for, and in it alone.
        alone = (*BROKEN, drain(1))
        self.assertEqual(last(*alone, way(1, 0, 5)), [-6])
        self.assertEqual(last(*alone, way(1, 1, 0)), [-6])

    def test_out_of_range_ahead_of_not_whole(self):
        for call in (way(2, 0, 0), way(-1, 0, 0), way(1, 2, 0), way(1, -1, 0), way(1, 0, 13), way(1, 0, -1)):
            self.assertEqual(last(*BROKEN, call), [-1], call)


class CanTest(unittest.TestCase):
    def test_no_vessel(self):
        for tap in (0, 1):
            self.assertEqual(last(can(tap)), [0])

    def test_with_a_tap(self):
        self.assertEqual(last(*FIVE_THREE, can(1)), [0, 0, 1, 2, 3, 4, 5])
        self.assertEqual(last(vessel(6), vessel(4), can(1)), [0, 0, 2, 4, 6])
        self.assertEqual(last(vessel(12), vessel(8), can(1)), [0, 0, 4, 8, 12])
        self.assertEqual(last(vessel(7), can(1)), [0, 0, 7])

    def test_without_a_tap(self):
        self.assertEqual(last(*FIVE_THREE, can(0)), [0, 0])
        self.assertEqual(last(*FIVE_THREE, fill(0, 0), can(0)), [0, 0, 2, 3, 5])
        self.assertEqual(last(*EIGHT, can(0)), [0, 0, 1, 2, 3, 4, 5, 6, 7, 8])
        self.assertEqual(last(vessel(7), fill(0, 0), can(0)), [0, 7])

    def test_ascending_and_each_once(self):
        # 9 0 0 is come to first, then 5 4 0, 5 0 4 and 1 4 4: 0 and 4 are in several, and what's least comes last.
        calls = (vessel(9), vessel(4), vessel(4), fill(0, 0))
        self.assertEqual(last(*calls, can(0)), [0, 0, 1, 4, 5, 9])
        same = (vessel(6), vessel(6), vessel(6), fill(0, 0), fill(1, 1), fill(2, 2))
        self.assertEqual(last(*same, can(0)), [0, 6])
        self.assertEqual(last(*same, can(1)), [0, 0, 6])

    def test_what_only_the_beginning_has(self):
        calls = (vessel(6), vessel(2), fill(1, 0), some(1, 0, 1, 1), drain(1))
        self.assertEqual(last(*calls, can(0)), [0, 0, 1])
        self.assertEqual(last(*calls, can(1)), [0, 0, 1, 2, 3, 4, 5, 6])
        self.assertEqual(last(vessel(3), vessel(1), fill(0, 0), some(0, 1, 1, 1), drain(1), drain(0), can(0)), [0, 0])

    def test_out_of_range(self):
        for tap in NO_TAP:
            self.assertEqual(last(can(tap)), [-1])
            self.assertEqual(last(*FIVE_THREE, can(tap)), [-1])

    def test_a_content_that_is_not_whole(self):
        for tap in (0, 1):
            self.assertEqual(last(*BROKEN, can(tap)), [-6])
            self.assertEqual(last(*BROKEN_OTHERS, can(tap)), [-6])
            self.assertEqual(last(*BROKEN, drain(1), can(tap)), [-6])
        for tap in NO_TAP:
            self.assertEqual(last(*BROKEN, can(tap)), [-1])


class ProofTest(unittest.TestCase):
    def test_all_in_order(self):
        self.assertEqual(last(vessel(6), vessel(4), proof(1, 0, 3)),
                         [0, 0, 0, 6, 0, 0, 4, 6, 4, 2, 4, 4, 0, 2, 0, 4, 4, 0, 2, 6, 2])

    def test_without_a_tap(self):
        self.assertEqual(last(*FIVE_THREE, proof(0, 0, 1)), [0, 0, 0])
        self.assertEqual(last(*FIVE_THREE, fill(0, 0), proof(0, 0, 4)), [0, 5, 0, 2, 3])

    def test_one_vessel(self):
        self.assertEqual(last(vessel(5), proof(1, 0, 4)), [0, 0, 5])
        self.assertEqual(last(vessel(5), fill(0, 0), proof(1, 0, 4)), [0, 5, 0])
        self.assertEqual(last(vessel(5), fill(0, 0), proof(0, 0, 4)), [0, 5])

    def test_from_the_contents_as_they_are(self):
        calls = (vessel(6), vessel(4), fill(0, 2), pour(0, 1))
        self.assertEqual(last(*calls, proof(1, 1, 1)), [0, 2, 4, 6, 4, 0, 4, 2, 0, 6, 0, 0, 0, 4, 0, 0, 2, 4, 4, 6, 2])

    def test_more_than_the_size(self):
        self.assertEqual(last(vessel(5), proof(1, 0, 12)), [0, 0, 5])
        given = last(*FIVE_THREE, proof(1, 1, 5))
        self.assertEqual(given, [0, 0, 0, 5, 0, 0, 3, 5, 3, 2, 3, 3, 0, 2, 0, 3, 3, 0, 2, 5, 1, 5, 2, 0, 1, 4, 3, 1, 0,
                                 4, 0, 1, 3])

    def test_three_large_vessels(self):
        for sizes, start, number in (((12, 12, 12), (0, 11, 7), 0), ((12, 12, 12), (12, 5, 8), 1),
                                     ((12, 12, 11), (12, 11, 7), 2), ((12, 11, 10), (0, 4, 9), 2)):
            calls = brought(sizes, start)
            for tap in (0, 1):
                reach = first_ways(sizes, start, tap)
                for n in range(13):
                    given = last(*calls, proof(tap, number, n))
                    if any(contents[number] == n for contents, first in reach):
                        self.assertEqual(given, [-4])
                    else:
                        self.assertEqual(given, [0] + [x for contents, first in reach for x in contents])
        # All of the box's sides and what it began with: 13 * 13 * 12 less 11 * 11 * 10, and 1.
        calls = [vessel(12), vessel(12), vessel(11), fill(1, 0), some(1, 0, 9, 1), fill(1, 0), some(1, 2, 7, 1),
                 fill(1, 0), some(1, 0, 1, 1)]
        self.assertEqual(len(last(*calls, proof(1, 2, 12))), 1 + 3 * 819)

    def test_there_is_a_way(self):
        self.assertEqual(last(*FIVE_THREE, proof(1, 0, 4)), [-4])
        self.assertEqual(last(*FIVE_THREE, proof(0, 0, 0)), [-4])
        self.assertEqual(last(*EIGHT, proof(0, 1, 4)), [-4])
        self.assertEqual(last(*FIVE_THREE, fill(0, 0), proof(0, 1, 3)), [-4])

    def test_out_of_range(self):
        for n in NO_AMOUNT:
            self.assertEqual(last(*FIVE_THREE, proof(0, 0, n)), [-1], n)
        for tap in NO_TAP:
            self.assertEqual(last(*FIVE_THREE, proof(tap, 0, 1)), [-1], tap)
        for number in NO_VESSEL:
            self.assertEqual(last(*FIVE_THREE, proof(0, number, 1)), [-1], number)
        self.assertEqual(last(proof(0, 0, 1)), [-1])

    def test_out_of_range_ahead_of_the_others(self):
        for call in (proof(2, 0, 0), proof(-1, 0, 0), proof(1, 2, 0), proof(1, -1, 0), proof(1, 0, 13),
                     proof(1, 0, -1)):
            # There is a way to nothing, and one content is no whole number in the other.
            self.assertEqual(last(*FIVE_THREE, call), [-1], call)
            self.assertEqual(last(*BROKEN, call), [-1], call)

    def test_a_content_that_is_not_whole(self):
        for tap in (0, 1):
            for number in (0, 1, 2):
                for n in (0, 3, 5, 12):
                    self.assertEqual(last(*BROKEN_OTHERS, proof(tap, number, n)), [-6])
        self.assertEqual(last(*BROKEN, drain(1), proof(1, 1, 0)), [-6])


class CheckTest(unittest.TestCase):
    # What can be come to with 6 and 4 and a tap.
    EVEN = [(0, 0), (6, 0), (0, 4), (6, 4), (2, 4), (4, 0), (2, 0), (4, 4), (0, 2), (6, 2)]
    SIX_FOUR = (vessel(6), vessel(4))

    def checked(self, before, tap, number, n, told):
        return last(*before, check(tap, number, n, [x for contents in told for x in contents]))

    def test_what_proof_answers(self):
        for before in (self.SIX_FOUR, FIVE_THREE, EIGHT, (*FIVE_THREE, fill(0, 0)), (vessel(5),)):
            for tap, n in itertools.product((0, 1), range(13)):
                row = last(*before, proof(tap, 0, n))
                if row != [-4]:
                    self.assertEqual(last(*before, check(tap, 0, n, row[1:])), [0, 1], (tap, n))

    def test_what_proof_answers_of_three_large_vessels(self):
        before = brought((12, 12, 11), (12, 11, 7))
        row = last(*before, proof(1, 2, 12))[1:]
        self.assertGreater(len(row), 2000)
        self.assertEqual(last(*before, check(1, 2, 12, row)), [0, 1])
        self.assertEqual(last(*before, check(1, 2, 12, row[:-3])), [0, 0])
        self.assertEqual(last(*before, check(1, 2, 11, row)), [0, 0])

    def test_contents_left_out(self):
        for place in range(len(self.EVEN)):
            told = self.EVEN[:place] + self.EVEN[place + 1:]
            self.assertEqual(self.checked(self.SIX_FOUR, 1, 0, 3, told), [0, 0], place)

    def test_contents_twice(self):
        for contents in self.EVEN:
            self.assertEqual(self.checked(self.SIX_FOUR, 1, 0, 3, self.EVEN + [contents]), [0, 1])
        self.assertEqual(self.checked(self.SIX_FOUR, 1, 0, 3, self.EVEN * 2), [0, 1])
        # As many as there must be, but one of them twice in the place of another.
        self.assertEqual(self.checked(self.SIX_FOUR, 1, 0, 3, self.EVEN[:-1] + self.EVEN[:1]), [0, 0])

    def test_in_another_order(self):
        for k in range(len(self.EVEN)):
            told = self.EVEN[k:] + self.EVEN[:k]
            self.assertEqual(self.checked(self.SIX_FOUR, 1, 0, 3, told), [0, 1])
            self.assertEqual(self.checked(self.SIX_FOUR, 1, 0, 3, told[::-1]), [0, 1])
        # The same numbers, but parted otherwise.
        row = [x for contents in self.EVEN for x in contents]
        self.assertEqual(last(*self.SIX_FOUR, check(1, 0, 3, row[::-1])), [0, 0])

    def test_more_than_can_be_come_to(self):
        # Without a tap no deed leads out of these, though they can't be come to from an empty pair.
        self.assertEqual(self.checked(FIVE_THREE, 0, 0, 1, [(0, 0), (5, 3), (5, 0), (2, 3)]), [0, 1])
        self.assertEqual(self.checked(FIVE_THREE, 0, 0, 1, [(0, 0), (5, 3), (5, 0)]), [0, 0])

    def test_the_contents_as_they_are_do_not_stand_there(self):
        self.assertEqual(self.checked(FIVE_THREE, 0, 0, 1, [(5, 3)]), [0, 0])
        self.assertEqual(self.checked((*FIVE_THREE, fill(0, 0)), 0, 0, 1, [(5, 3)]), [0, 0])
        self.assertEqual(self.checked((*FIVE_THREE, fill(0, 0), fill(1, 0)), 0, 0, 1, [(5, 3)]), [0, 1])
        odd = (vessel(6), vessel(4), fill(1, 0), some(1, 0, 3, 1))
        self.assertEqual(self.checked(odd, 1, 0, 5, self.EVEN), [0, 0])

    def test_a_deed_leads_out_of_it(self):
        self.assertEqual(self.checked(FIVE_THREE, 0, 0, 1, [(0, 0), (5, 0)]), [0, 0])
        self.assertEqual(self.checked(FIVE_THREE, 0, 0, 1, [(0, 0), (0, 3)]), [0, 0])
        self.assertEqual(self.checked(FIVE_THREE, 0, 0, 1, [(0, 0)]), [0, 1])
        # Only with a tap.
        self.assertEqual(self.checked(FIVE_THREE, 1, 0, 1, [(0, 0)]), [0, 0])
        self.assertEqual(self.checked((vessel(5),), 1, 0, 1, [(0,)]), [0, 0])
        self.assertEqual(self.checked((vessel(5), fill(0, 0)), 1, 0, 1, [(5,)]), [0, 0])
        self.assertEqual(self.checked((vessel(5),), 0, 0, 1, [(0,)]), [0, 1])

    def test_the_vessel_has_it(self):
        for n in (0, 2, 4, 6):
            self.assertEqual(self.checked(self.SIX_FOUR, 1, 0, n, self.EVEN), [0, 0])
        for n in (1, 3, 5, 7, 8, 12):
            self.assertEqual(self.checked(self.SIX_FOUR, 1, 0, n, self.EVEN), [0, 1])
        # Vessel 1 never has 6, though vessel 0 has.
        self.assertEqual(self.checked(self.SIX_FOUR, 1, 1, 6, self.EVEN), [0, 1])
        # In what can't be come to it has it.
        self.assertEqual(self.checked(FIVE_THREE, 0, 0, 1, [(0, 0), (1, 3)]), [0, 0])
        self.assertEqual(self.checked(FIVE_THREE, 0, 0, 4, [(0, 0), (1, 3), (4, 0)]), [0, 0])

    def test_an_empty_row(self):
        for tap, n in itertools.product((0, 1), (0, 1, 12)):
            for before in ((vessel(5),), FIVE_THREE, EIGHT):
                self.assertEqual(last(*before, check(tap, 0, n, [])), [0, 0])

    def test_an_empty_row_and_calls_behind(self):
        given = ask(*FIVE_THREE, check(0, 0, 1, []), check(0, 0, 1, [0, 0]), can(0))
        self.assertEqual(given[2:], [[0, 0], [0, 1], [0, 0]])

    def test_pouring_into_more_than_the_size_takes_nothing(self):
        # 12 of 3: out of it 5 go over, and nothing into it.
        self.assertEqual(self.checked(FIVE_THREE, 0, 0, 1, [(0, 0), (0, 12), (5, 7)]), [0, 1])
        self.assertEqual(self.checked(FIVE_THREE, 0, 0, 1, [(0, 0), (0, 12)]), [0, 0])
        self.assertEqual(self.checked(FIVE_THREE, 0, 0, 1, [(0, 0), (5, 7)]), [0, 1])
        self.assertEqual(self.checked(FIVE_THREE, 0, 0, 1, [(0, 0), (12, 12)]), [0, 1])
        self.assertEqual(self.checked(FIVE_THREE, 0, 1, 1, [(0, 0), (6, 3), (5, 4)]), [0, 1])

    def test_filling_more_than_the_size_brings_it_to_the_size(self):
        for more in range(6, 13):
            self.assertEqual(self.checked((vessel(5),), 1, 0, 3, [(0,), (5,), (more,)]), [0, 1])
            self.assertEqual(self.checked((vessel(5),), 1, 0, more, [(0,), (5,), (more,)]), [0, 0])
        full = (vessel(5), fill(0, 0))
        self.assertEqual(self.checked(full, 1, 0, 3, [(0,), (5,), (9,)]), [0, 1])

    def test_more_than_the_size_with_a_tap(self):
        pair = (vessel(2), vessel(2))
        told = [(a, b) for a in range(0, 13, 2) for b in (0, 2)]
        self.assertEqual(self.checked(pair, 1, 0, 1, told), [0, 1])
        self.assertEqual(self.checked(pair, 1, 1, 4, told), [0, 1])
        for left_out in told:
            rest = [contents for contents in told if contents != left_out]
            self.assertEqual(self.checked(pair, 1, 0, 1, rest), [0, 0], left_out)
        # From no other one the two with 12 are come to.
        self.assertEqual(self.checked(pair, 1, 0, 1, [contents for contents in told if contents[0] < 12]), [0, 1])

    def test_numbers_of_the_row_out_of_range(self):
        for number in (-1, 13, 14, -12, HUGE, -HUGE):
            for place in range(4):
                row = [0, 0, 5, 3]
                row[place] = number
                self.assertEqual(last(*FIVE_THREE, check(0, 0, 1, row)), [-1], row)
            self.assertEqual(last(vessel(5), check(1, 0, 1, [0, 5, number])), [-1])
            # Also where the row would prove nothing.
            self.assertEqual(last(*FIVE_THREE, check(0, 0, 0, [4, 1, 0, number])), [-1])

    def test_a_row_that_can_not_be_parted(self):
        for length in (1, 3, 5, 6999):
            self.assertEqual(last(*FIVE_THREE, check(0, 0, 1, [0] * length)), [-1], length)
        for length in (1, 2, 4, 5, 7000):
            self.assertEqual(last(*EIGHT, check(0, 0, 1, [0] * length)), [-1], length)
        for length in (1, 2, 3, 6999, 7000):
            self.assertEqual(last(vessel(5), check(0, 0, 1, [0] * length)), [0, 1], length)

    def test_no_vessel(self):
        for row in ([], [0], [0, 0, 0], [13]):
            for number in (-1, 0, 1):
                self.assertEqual(last(check(1, number, 0, row)), [-1])

    def test_out_of_range(self):
        row = [0, 0]
        for n in NO_AMOUNT:
            self.assertEqual(last(*FIVE_THREE, check(0, 0, n, row)), [-1], n)
        for tap in NO_TAP:
            self.assertEqual(last(*FIVE_THREE, check(tap, 0, 1, row)), [-1], tap)
        for number in NO_VESSEL:
            self.assertEqual(last(*FIVE_THREE, check(0, number, 1, row)), [-1], number)

    def test_a_content_that_is_not_whole(self):
        for tap in (0, 1):
            for row in ([], [0, 0], [5, 0], [4, 0, 5, 1]):
                self.assertEqual(last(*BROKEN, check(tap, 0, 1, row)), [-6])
                self.assertEqual(last(*BROKEN, drain(1), check(tap, 1, 1, row)), [-6])
        self.assertEqual(last(*BROKEN_OTHERS, check(1, 2, 1, [0, 0, 0])), [-6])

    def test_out_of_range_ahead_of_not_whole(self):
        for call in (check(2, 0, 1, [0, 0]), check(-1, 0, 1, [0, 0]), check(1, 2, 1, [0, 0]), check(1, -1, 1, [0, 0]),
                     check(1, 0, 13, [0, 0]), check(1, 0, -1, []), check(1, 0, 1, [0, 13]), check(1, 0, 1, [-1, 0]),
                     check(1, 0, 1, [0]), check(1, 0, 1, [0, 0, 0]), check(0, 0, 1, [HUGE, 0])):
            self.assertEqual(last(*BROKEN, call), [-1], call)

    def test_a_row_of_7000_numbers(self):
        row = [x for contents in self.EVEN * 350 for x in contents]
        self.assertEqual(len(row), 7000)
        self.assertEqual(last(*self.SIX_FOUR, check(1, 0, 3, row)), [0, 1])
        self.assertEqual(last(*self.SIX_FOUR, check(1, 0, 3, row[:-1] + [1])), [0, 0])
        self.assertEqual(last(*self.SIX_FOUR, check(1, 0, 3, row[:-1] + [13])), [-1])
        self.assertEqual(last(vessel(5), check(1, 0, 3, [0, 5] * 3500)), [0, 1])
        # All there is of three vessels of 12, then as much again as there is place for.
        every = [x for contents in itertools.product(range(13), repeat=3) for x in contents]
        three = (vessel(12), vessel(12), vessel(12))
        self.assertEqual(last(*three, check(1, 0, 3, (every * 2)[:6999])), [0, 0])
        none = [x for contents in itertools.product((0, 12), repeat=3) for x in contents]
        self.assertEqual(last(*three, check(1, 0, 3, (none * 300)[:6999])), [0, 1])

    def test_calls_behind_a_row_are_found(self):
        # The row's numbers look like calls.
        given = answers([0, 5, 10, 0, 0, 1, 3, 0, 5, 5, 8, 1, 10, 0, 0, 1, 2, 11, 12, 11])
        self.assertEqual(parted(given), [[0, 0], [0, 1], [0, 0, 5], [0, 0], [0, 5]])


if __name__ == "__main__":
    unittest.main()
