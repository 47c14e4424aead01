"""[61] and [62], and [1] and [3] of them: the teller and the hearer."""

import copy
import unittest

from farpanes.changes import change_of, changed, cost
from farpanes.ends import Hearer, Teller
from farpanes.errors import BadFace, BadPacket
from farpanes.faces import blank
from tests.common import NO_FACES, NO_NUMBERS, NO_TUPLES, face_of, refused, rows_of
from tests.test_changes import BAD_PARTS, NO_LISTS

HUGE = 10 ** 5000
EMPTY = face_of("    ", "    ")


def page(number):
    """One of many faces of one size, each unlike all others."""
    return face_of(f"{number:4}", "abcd", row=number % 2, column=number % 4, ink=number % 8)


PAGES = [page(number) for number in range(30)]


def told_pages(numbers, first=EMPTY):
    """A teller that was shown these pages, with a tick behind each, so that they are states 1 and on."""
    teller = Teller(first)
    for number in numbers:
        teller.show(PAGES[number])
        teller.tick()
    return teller


class TestTeller(unittest.TestCase):
    def check(self, packet, start, to, keep, one, other):
        """The packet's parts, and that its change leads from one face to the other and costs no more than need be."""
        self.assertIs(type(packet), tuple)
        self.assertEqual(len(packet), 4)
        self.assertEqual(packet[:3], (start, to, keep))
        for number in packet[:3]:
            self.assertIs(type(number), int)
        self.assertIs(type(packet[3]), list)
        self.assertEqual(changed(one, packet[3]), other)
        self.assertLessEqual(cost(packet[3]), cost(change_of(one, other)))

    def test_nothing_shown(self):
        teller = Teller(EMPTY)
        self.assertIs(teller.is_at_rest(), True)
        for turn in range(3):
            self.assertIsNone(teller.tick())
        self.assertIs(teller.is_at_rest(), True)

    def test_the_same_face_shown(self):
        teller = Teller(PAGES[1])
        self.assertIsNone(teller.show(page(1)))
        self.assertIs(teller.is_at_rest(), True)
        self.assertIsNone(teller.tick())
        self.assertIs(teller.is_at_rest(), True)

    def test_another_face_shown(self):
        teller = Teller(EMPTY)
        self.assertIsNone(teller.show(PAGES[1]))
        self.assertIs(teller.is_at_rest(), False)
        self.check(teller.tick(), 0, 1, 0, EMPTY, PAGES[1])
        self.assertIs(teller.is_at_rest(), False)

    def test_each_difference_makes_another_face(self):
        base = face_of("ab", "cd", ink=3)
        for other in [face_of("ab", "cX", ink=3), face_of("ab", "cd", ink=4), face_of("ab", "cd", row=1, ink=3)]:
            teller = Teller(base)
            teller.show(other)
            self.check(teller.tick(), 0, 1, 0, base, other)

    def test_it_tells_the_same_until_it_hears(self):
        teller = told_pages([1])
        for turn in range(5):
            self.check(teller.tick(), 0, 1, 0, EMPTY, PAGES[1])
        self.assertIs(teller.is_at_rest(), False)

    def test_only_the_face_at_the_tick_becomes_a_state(self):
        teller = Teller(EMPTY)
        for number in (1, 2, 3):
            teller.show(PAGES[number])
        self.check(teller.tick(), 0, 1, 0, EMPTY, PAGES[3])

    def test_shown_and_shown_as_before_ahead_of_the_tick(self):
        teller = Teller(EMPTY)
        teller.show(PAGES[1])
        teller.show(EMPTY)
        self.assertIs(teller.is_at_rest(), True)
        self.assertIsNone(teller.tick())

    def test_shown_ticked_shown_as_before_and_ticked(self):
        teller = told_pages([1])
        teller.show(EMPTY)
        self.assertIs(teller.is_at_rest(), False)
        packet = teller.tick()
        self.check(packet, 0, 2, 0, EMPTY, EMPTY)
        self.assertEqual(packet[3], [])
        self.assertIs(teller.is_at_rest(), False)
        teller.heard(0)
        self.assertIs(teller.is_at_rest(), False)
        teller.heard(2)
        self.assertIs(teller.is_at_rest(), True)
        self.assertIsNone(teller.tick())

    def test_states_in_turn(self):
        teller = Teller(EMPTY)
        for number in range(1, 6):
            teller.show(PAGES[number])
            self.check(teller.tick(), 0, number, 0, EMPTY, PAGES[number])

    def test_the_last_state_heard(self):
        teller = told_pages([1, 2, 3])
        self.assertIsNone(teller.heard(3))
        self.assertIs(teller.is_at_rest(), True)
        self.assertIsNone(teller.tick())
        teller.show(PAGES[4])
        self.assertIs(teller.is_at_rest(), False)
        self.check(teller.tick(), 3, 4, 3, PAGES[3], PAGES[4])

    def test_the_last_state_heard_while_another_face_is_there(self):
        teller = told_pages([1, 2])
        teller.show(PAGES[9])
        teller.heard(2)
        self.assertIs(teller.is_at_rest(), False)
        self.check(teller.tick(), 2, 3, 2, PAGES[2], PAGES[9])

    def test_a_state_between_heard(self):
        for number in (1, 2, 3):
            teller = told_pages([1, 2, 3, 4])
            teller.heard(number)
            self.assertIs(teller.is_at_rest(), False)
            self.check(teller.tick(), number, 4, number, PAGES[number], PAGES[4])

    def test_the_same_heard_twice(self):
        teller = told_pages([1, 2, 3])
        for turn in range(2):
            teller.heard(2)
            self.check(teller.tick(), 2, 3, 2, PAGES[2], PAGES[3])
        for turn in range(2):
            teller.heard(3)
            self.assertIs(teller.is_at_rest(), True)
            self.assertIsNone(teller.tick())

    def test_a_lesser_one_heard(self):
        teller = told_pages([1, 2, 3, 4])
        teller.heard(3)
        for number in (2, 1, 0, 3):
            teller.heard(number)
            self.check(teller.tick(), 3, 4, 3, PAGES[3], PAGES[4])
        teller.heard(4)
        for number in (3, 0):
            teller.heard(number)
            self.assertIs(teller.is_at_rest(), True)

    def test_0_heard_at_first(self):
        teller = Teller(EMPTY)
        self.assertIsNone(teller.heard(0))
        self.assertIs(teller.is_at_rest(), True)
        teller.show(PAGES[1])
        teller.heard(0)
        self.check(teller.tick(), 0, 1, 0, EMPTY, PAGES[1])

    def test_six_states_are_all_kept(self):
        for number in range(1, 6):
            teller = told_pages([1, 2, 3, 4, 5])
            teller.heard(number)
            packet = teller.tick()
            if number == 5:
                self.assertIsNone(packet)
            else:
                self.check(packet, number, 5, number, PAGES[number], PAGES[5])

    def test_of_seven_states_the_least_behind_0_is_let_go(self):
        for number in range(1, 7):
            teller = told_pages([1, 2, 3, 4, 5])
            teller.show(PAGES[6])
            self.check(teller.tick(), 0, 6, 0, EMPTY, PAGES[6])
            teller.heard(number)
            packet = teller.tick()
            if number == 1:
                self.check(packet, 0, 6, 0, EMPTY, PAGES[6])
            elif number == 6:
                self.assertIsNone(packet)
            else:
                self.check(packet, number, 6, number, PAGES[number], PAGES[6])

    def test_each_further_state_lets_one_more_go(self):
        for last in range(7, 14):
            for number in range(1, last + 1):
                teller = told_pages(range(1, last + 1))
                teller.heard(number)
                known = number if number > last - 5 else 0
                self.assertIs(teller.is_at_rest(), number == last)
                if number < last:
                    one = PAGES[known] if known else EMPTY
                    self.check(teller.tick(), known, last, known, one, PAGES[last])

    def test_the_least_behind_a_later_one_is_let_go(self):
        # Known to be there is 3; behind it five may be kept: 4 is let go when 9 comes, 5 when 10 comes.
        for last, gone in [(8, []), (9, [4]), (10, [4, 5])]:
            for number in range(4, last):
                teller = told_pages([1, 2, 3])
                teller.heard(3)
                for later in range(4, last + 1):
                    teller.show(PAGES[later])
                    self.check(teller.tick(), 3, later, 3, PAGES[3], PAGES[later])
                teller.heard(number)
                known = 3 if number in gone else number
                self.check(teller.tick(), known, last, known, PAGES[known], PAGES[last])

    def test_one_that_was_let_go_changes_nothing_and_a_later_one_does(self):
        teller = told_pages(range(1, 9))
        for number in (1, 2, 3):
            self.assertIsNone(teller.heard(number))
            self.check(teller.tick(), 0, 8, 0, EMPTY, PAGES[8])
        teller.heard(4)
        self.check(teller.tick(), 4, 8, 4, PAGES[4], PAGES[8])

    def test_states_ahead_of_the_one_heard_make_room(self):
        teller = told_pages(range(1, 6))
        teller.heard(3)
        for number in (6, 7, 8):
            teller.show(PAGES[number])
            teller.tick()
        teller.heard(4)
        self.check(teller.tick(), 4, 8, 4, PAGES[4], PAGES[8])

    def test_numbers_that_are_none(self):
        teller = told_pages([1, 2, 3])
        teller.heard(1)
        for thing in NO_NUMBERS + [-1, -2, 4, 5, HUGE, -HUGE]:
            refused(self, BadPacket, teller.heard, thing)
        self.check(teller.tick(), 1, 3, 1, PAGES[1], PAGES[3])
        self.assertIs(teller.is_at_rest(), False)

    def test_numbers_that_are_none_at_first(self):
        teller = Teller(EMPTY)
        teller.show(PAGES[1])
        for thing in NO_NUMBERS + [-1, 1, 2]:
            refused(self, BadPacket, teller.heard, thing)
        self.check(teller.tick(), 0, 1, 0, EMPTY, PAGES[1])
        refused(self, BadPacket, teller.heard, True)
        self.assertIs(teller.is_at_rest(), False)
        self.assertIsNone(teller.heard(1))
        self.assertIs(teller.is_at_rest(), True)

    def test_what_is_no_face(self):
        for thing in NO_FACES:
            refused(self, BadFace, Teller, thing)

    def test_show_of_no_face_changes_nothing(self):
        teller = told_pages([1])
        teller.show(PAGES[2])
        for thing in NO_FACES + [blank(1, 4), blank(2, 3), blank(2, 5), blank(3, 4), blank(4, 2), blank(10, 20)]:
            refused(self, BadFace, teller.show, thing)
        self.check(teller.tick(), 0, 2, 0, EMPTY, PAGES[2])
        rested = Teller(EMPTY)
        refused(self, BadFace, rested.show, blank(2, 3))
        self.assertIs(rested.is_at_rest(), True)
        self.assertIsNone(rested.tick())

    def test_told_changes_are_new_lists(self):
        teller = told_pages([1])
        first = teller.tick()
        kept = copy.deepcopy(first)
        first[3].clear()
        second = teller.tick()
        self.assertEqual(second, kept)
        second[3].append(("roll", 1))
        self.assertEqual(teller.tick(), kept)
        self.check(teller.tick(), 0, 1, 0, EMPTY, PAGES[1])

    def test_faces_handed_in_are_as_they_were(self):
        first, second = page(1), page(2)
        teller = Teller(first)
        teller.show(second)
        teller.tick()
        teller.heard(1)
        self.assertEqual((first, second), (page(1), page(2)))

    def test_tellers_have_nothing_in_common(self):
        one, other = Teller(EMPTY), Teller(EMPTY)
        one.show(PAGES[1])
        one.tick()
        self.assertIs(other.is_at_rest(), True)
        self.assertIsNone(other.tick())
        refused(self, BadPacket, other.heard, 1)


def packet_to(start, to, keep=0):
    """A packet from one page to another, page 0 being the state 0."""
    return start, to, keep, change_of(PAGES[start], PAGES[to])


def bad_packets():
    """What is no packet, each wrong in one thing only, where it can be."""
    change = [("cursor", 0, 0)]
    wrong = list(NO_TUPLES) + [(), (0,), (0, 1), (0, 1, 0), (0, 1, 0, change, 0), (0, 1, 0, change, change)]
    wrong += [[0, 1, 0, change], ((0, 1, 0, change),), (0, 1, change), (0, 1, 0, 0, change), (change, 0, 1, 0)]
    for thing in NO_NUMBERS + [-1, -HUGE]:
        wrong += [(thing, 5, 0, change), (0, thing, 0, change), (0, 5, thing, change)]
    wrong += [(True, 5, 0, change), (False, 5, 0, change), (0, True, 0, change), (1, 5, True, change)]
    wrong += [(0, 1, False, change), (2, 5, True, change), (5, 6, False, change)]
    wrong += [(0, 1, 1, change), (0, 5, 2, change), (1, 5, 2, change), (0, HUGE, 1, change), (0, 5, HUGE, change)]
    wrong += [(0, 0, 0, change), (1, 1, 0, change), (1, 1, 1, change), (2, 1, 0, change), (HUGE, 5, 0, change)]
    wrong += [(0, 5, 0, thing) for thing in NO_LISTS]
    wrong += [(0, 5, 0, [part]) for part in BAD_PARTS] + [(0, 5, 0, change + [part]) for part in BAD_PARTS]
    return wrong


class TestHearer(unittest.TestCase):
    def check(self, hearer, number, face):
        self.assertEqual(hearer.number(), number)
        self.assertIs(type(hearer.number()), int)
        self.assertEqual(hearer.face(), face)

    def has(self, hearer, number):
        """Whether the hearer has a state: a packet from it, with a greater number than all, does not tell None."""
        probe = copy.deepcopy(hearer)
        return probe.took((number, probe.number() + 100, 0, [])) is not None

    def states(self, hearer):
        return [number for number in range(hearer.number() + 1) if self.has(hearer, number)]

    def test_at_first(self):
        self.check(Hearer(PAGES[0]), 0, PAGES[0])
        self.assertEqual(self.states(Hearer(PAGES[0])), [0])

    def test_packets_in_turn(self):
        hearer = Hearer(PAGES[0])
        for number in range(1, 6):
            told = hearer.took(packet_to(number - 1, number))
            self.assertEqual(told, number)
            self.assertIs(type(told), int)
            self.check(hearer, number, PAGES[number])
        self.assertEqual(self.states(hearer), [0, 1, 2, 3, 4, 5])

    def test_all_from_one_state(self):
        hearer = Hearer(PAGES[0])
        for number in (1, 2, 5, 6, 20):
            self.assertEqual(hearer.took(packet_to(0, number)), number)
            self.check(hearer, number, PAGES[number])
        self.assertEqual(self.states(hearer), [0, 1, 2, 5, 6, 20])

    def test_a_packet_twice(self):
        hearer = Hearer(PAGES[0])
        for turn in range(3):
            self.assertEqual(hearer.took((0, 1, 0, [("roll", 1)])), 1)
            self.check(hearer, 1, changed(PAGES[0], [("roll", 1)]))

    def test_a_late_packet(self):
        hearer = Hearer(PAGES[0])
        hearer.took(packet_to(0, 3))
        for number in (1, 2, 3):
            self.assertEqual(hearer.took(packet_to(0, number)), 3)
            self.check(hearer, 3, PAGES[3])
        self.assertEqual(self.states(hearer), [0, 3])

    def test_another_order(self):
        hearer = Hearer(PAGES[0])
        told = [hearer.took(packet_to(0, number)) for number in (2, 1, 4, 3, 5)]
        self.assertEqual(told, [2, 2, 4, 4, 5])
        self.check(hearer, 5, PAGES[5])
        self.assertEqual(self.states(hearer), [0, 2, 4, 5])

    def test_a_state_from_which_it_has_not(self):
        hearer = Hearer(PAGES[0])
        hearer.took(packet_to(0, 2))
        for start, to, keep in [(1, 3, 0), (1, 3, 1), (3, 4, 0), (3, 4, 3), (9, 10, 9), (HUGE, HUGE + 1, HUGE)]:
            self.assertIsNone(hearer.took((start, to, keep, [("roll", 1)])))
            self.check(hearer, 2, PAGES[2])
            self.assertEqual(self.states(hearer), [0, 2])

    def test_a_change_from_a_state_it_has_not_is_not_tried(self):
        hearer = Hearer(PAGES[0])
        self.assertIsNone(hearer.took((1, 2, 1, [("cursor", 2, 0)])))
        self.check(hearer, 0, PAGES[0])

    def test_keep_lets_states_go(self):
        for keep in range(5):
            hearer = Hearer(PAGES[0])
            for number in range(1, 5):
                hearer.took(packet_to(0, number))
            self.assertEqual(hearer.took(packet_to(4, 5, keep)), 5)
            self.check(hearer, 5, PAGES[5])
            self.assertEqual(self.states(hearer), list(range(keep, 6)))
            for number in range(keep):
                self.assertIsNone(hearer.took(packet_to(number, 6)))

    def test_to_not_above_its_greatest_still_lets_states_go(self):
        for to in (2, 3, 4, 5):
            for keep in range(to):
                hearer = Hearer(PAGES[0])
                for number in range(1, 6):
                    hearer.took(packet_to(0, number))
                self.assertEqual(hearer.took(packet_to(to - 1, to, keep)), 5)
                self.check(hearer, 5, PAGES[5])
                self.assertEqual(self.states(hearer), list(range(keep, 6)))

    def test_to_not_above_its_greatest_from_a_state_it_has_not(self):
        hearer = Hearer(PAGES[0])
        for number in (1, 2, 6):
            hearer.took(packet_to(0, number))
        self.assertEqual(hearer.took(packet_to(4, 5, 2)), 6)
        self.check(hearer, 6, PAGES[6])
        self.assertEqual(self.states(hearer), [2, 6])

    def test_to_not_above_its_greatest_does_no_change(self):
        hearer = Hearer(PAGES[0])
        hearer.took(packet_to(0, 3))
        for to in (1, 2, 3):
            self.assertEqual(hearer.took((0, to, 0, [("cursor", 1, 1), ("roll", 2)])), 3)
            self.assertEqual(hearer.took((0, to, 0, [("cursor", 9, 9)])), 3)
            self.check(hearer, 3, PAGES[3])
        self.assertEqual(self.states(hearer), [0, 3])

    def test_the_greatest_is_never_let_go(self):
        hearer = Hearer(PAGES[0])
        hearer.took(packet_to(0, 9))
        self.assertEqual(hearer.took(packet_to(7, 8, 7)), 9)
        self.assertEqual(self.states(hearer), [9])
        self.assertEqual(hearer.took(packet_to(9, 10, 9)), 10)
        self.assertEqual(self.states(hearer), [9, 10])
        self.check(hearer, 10, PAGES[10])

    def test_an_empty_change_makes_a_state(self):
        hearer = Hearer(PAGES[0])
        self.assertEqual(hearer.took((0, 1, 0, [])), 1)
        self.check(hearer, 1, PAGES[0])

    def test_changes_of_any_kind_are_done(self):
        change = [("cursor", 1, 1), ("roll", 1), ("put", 0, 0, 3, "xy"), ("put", 0, 1, 4, "z"), ("roll", -1)]
        hearer = Hearer(PAGES[0])
        self.assertEqual(hearer.took((0, HUGE, 0, change)), HUGE)
        self.check(hearer, HUGE, changed(PAGES[0], change))

    def test_what_is_no_packet(self):
        hearer = Hearer(PAGES[0])
        for number in (1, 2):
            hearer.took(packet_to(0, number))
        for thing in bad_packets():
            refused(self, BadPacket, hearer.took, thing)
        self.check(hearer, 2, PAGES[2])
        self.assertEqual(self.states(hearer), [0, 1, 2])

    def test_what_is_no_packet_is_refused_also_if_it_is_late(self):
        hearer = Hearer(PAGES[0])
        hearer.took((0, HUGE, 0, []))
        for thing in bad_packets():
            refused(self, BadPacket, hearer.took, thing)
        refused(self, BadPacket, hearer.took, (7, 8, 7, None))
        self.check(hearer, HUGE, PAGES[0])
        self.assertTrue(self.has(hearer, 0))

    def test_a_change_that_can_not_be_done(self):
        hearer = Hearer(PAGES[0])
        hearer.took(packet_to(0, 1))
        good = [("roll", 1), ("put", 0, 0, 1, "xy")]
        for part in [("cursor", 2, 0), ("cursor", 0, 4), ("put", 2, 0, 0, "a"), ("put", 0, 4, 0, "a"),
                     ("put", 0, 0, 0, "abcde"), ("put", 1, 3, 0, "ab"), ("cursor", HUGE, HUGE)]:
            for change in ([part], good + [part], [part] + good):
                refused(self, BadPacket, hearer.took, (0, 2, 0, change))
                refused(self, BadPacket, hearer.took, (1, 2, 1, change))
        self.check(hearer, 1, PAGES[1])
        self.assertEqual(self.states(hearer), [0, 1])
        self.assertEqual(hearer.took(packet_to(0, 2)), 2)

    def test_what_is_no_face(self):
        for thing in NO_FACES:
            refused(self, BadFace, Hearer, thing)

    def test_the_change_handed_in_is_as_it_was_and_is_not_kept(self):
        hearer = Hearer(PAGES[0])
        packet = (0, 1, 0, [("roll", 1), ("put", 0, 0, 5, "xy"), ("cursor", 0, 0)])
        kept = copy.deepcopy(packet)
        hearer.took(packet)
        self.assertEqual(packet, kept)
        face = changed(PAGES[0], kept[3])
        self.check(hearer, 1, face)
        packet[3].append(("roll", 1))
        packet[3][1] = ("put", 0, 0, 5, "zz")
        self.check(hearer, 1, face)
        self.assertEqual(hearer.took((1, 2, 0, [("cursor", 1, 1)])), 2)
        self.check(hearer, 2, (face[0], 1, 1))
        wrong = (0, 3, 0, [("roll", 1), ("cursor", 5, 5)])
        before = copy.deepcopy(wrong)
        refused(self, BadPacket, hearer.took, wrong)
        self.assertEqual(wrong, before)

    def test_faces_of_one_cell(self):
        hearer = Hearer(blank(1, 1))
        self.assertEqual(hearer.took((0, 1, 0, [("put", 0, 0, 7, "x")])), 1)
        self.check(hearer, 1, (rows_of("x", ink=7), 0, 0))

    def test_hearers_have_nothing_in_common(self):
        one, other = Hearer(PAGES[0]), Hearer(PAGES[0])
        one.took(packet_to(0, 1))
        self.check(other, 0, PAGES[0])
        self.assertEqual(self.states(other), [0])


if __name__ == "__main__":
    unittest.main()
