import unittest
from fractions import Fraction

from landroll.errors import BadShares, TooFine, TooLittle
from landroll.shares import FINEST, hand_on, is_name, mixed, owners, pressed, share_of, shares_of
from tests.helper import (
    BIG, NAMES, NO_NAMES, Mix, blended, handed, is_too_fine, mixed_shares, pair, plain, refused, shares_from, squeezed,
)

HALVES = (("ann", (1, 2)), ("bob", (1, 2)))
WHOLE = (("ann", (1, 1)),)
THREE = (("ann", (1, 2)), ("bob", (1, 3)), ("cid", (1, 6)))


class Shares(unittest.TestCase):
    """What the other tests here hold shares against."""

    def good(self, shares):
        """Holds that shares have the form of [19]."""
        self.assertIs(type(shares), tuple)
        names = [name for name, share in shares]
        self.assertEqual(names, sorted(set(names)))
        self.assertEqual(sum(plain(shares).values()), 1)
        for thing in shares:
            name, share = thing
            self.assertEqual([type(thing), type(name), type(share)], [tuple, str, tuple])
            self.assertEqual([type(number) for number in share], [int, int])
            self.assertEqual(share, pair(Fraction(*share)))
            self.assertGreater(share[0], 0)
            self.assertLessEqual(share[1], BIG)

    def same(self, shares, held):
        self.good(shares)
        self.assertEqual(shares, shares_from(held))


class Names(Shares):
    def test_finest_is_told(self):
        self.assertEqual(FINEST, 10 ** 60)
        self.assertIs(type(FINEST), int)

    def test_texts_of_1_to_8_letters(self):
        for letter in "abcdefghijklmnopqrstuvwxyz":
            for many in range(1, 9):
                self.assertIs(is_name(letter * many), True)
        for name in NAMES + ("abcdefgh", "ijklmnop", "qrstuvwx", "yz"):
            self.assertIs(is_name(name), True)

    def test_all_other_things(self):
        for thing in NO_NAMES:
            with self.subTest(thing=thing):
                self.assertIs(is_name(thing), False)

    def test_all_other_signs_at_each_place(self):
        for number in list(range(97)) + list(range(123, 1000)):
            for name in (chr(number), "a" + chr(number), chr(number) + "a", "abc" + chr(number) + "efg"):
                self.assertIs(is_name(name), False)

    def test_nine_letters_and_more(self):
        for many in range(9, 30):
            self.assertIs(is_name("abcdefghijklmnopqrstuvwxyzabcd"[:many]), False)


class Made(Shares):
    def test_in_any_order(self):
        self.assertEqual(shares_of([("bob", (1, 2)), ("ann", (1, 2))]), HALVES)
        self.assertEqual(shares_of([("ann", (1, 2)), ("bob", (1, 2))]), HALVES)
        self.assertEqual(shares_of([("cid", (1, 6)), ("ann", (1, 2)), ("bob", (1, 3))]), THREE)

    def test_one_pair(self):
        self.assertEqual(shares_of([("ann", (1, 1))]), WHOLE)
        self.assertEqual(shares_of([("zzzzzzzz", (1, 1))]), (("zzzzzzzz", (1, 1)),))

    def test_a_name_in_several_pairs(self):
        self.assertEqual(shares_of([("ann", (1, 3)), ("ann", (2, 3))]), WHOLE)
        self.assertEqual(shares_of([("ann", (1, 4)), ("bob", (1, 2)), ("ann", (1, 4))]), HALVES)
        self.assertEqual(shares_of([("ann", (1, 4))] * 2 + [("bob", (1, 8))] * 4), HALVES)

    def test_names_are_sorted_as_texts(self):
        some = [("b", (1, 4)), ("aa", (1, 4)), ("a", (1, 4)), ("ab", (1, 4))]
        self.assertEqual(owners(shares_of(some)), ["a", "aa", "ab", "b"])

    def test_sixty_pairs(self):
        names = [one + other for one in "abcdef" for other in "ghijklmnop"]
        shares = shares_of([(name, (1, 60)) for name in reversed(names)])
        self.same(shares, {name: Fraction(1, 60) for name in names})
        shares = shares_of([(names[place % 7], (1, 60)) for place in range(60)])
        self.same(shares, {names[place]: Fraction(9 if place < 4 else 8, 60) for place in range(7)})

    def test_mixed_ones(self):
        mix = Mix(3)
        for turn in range(300):
            shares = mixed_shares(mix, 9, 50)
            pairs = []
            for name, share in shares:
                first = Fraction(*share) * Fraction(1 + mix.below(9), 10)
                pairs.extend([(name, pair(first)), (name, pair(Fraction(*share) - first))])
            pairs = mix.some_of(pairs, len(pairs))
            before = list(pairs)
            self.same(shares_of(pairs), plain(shares))
            self.assertEqual(pairs, before)

    def test_no_pairs(self):
        refused(self, BadShares, shares_of, [])

    def test_what_is_no_name(self):
        for wrong in NO_NAMES:
            refused(self, BadShares, shares_of, [(wrong, (1, 1))])
            refused(self, BadShares, shares_of, [("ann", (1, 2)), (wrong, (1, 2))])
            refused(self, BadShares, shares_of, [(wrong, (1, 2)), ("ann", (1, 2))])
            refused(self, BadShares, shares_of, [("ann", (1, 1)), (wrong, (1, 2))])

    def test_fractions_of_nought_and_below(self):
        for wrong in ((0, 1), (-1, 2), (-1, 1), (-1, BIG + 1)):
            rest = pair(1 - Fraction(*wrong))
            refused(self, BadShares, shares_of, [("ann", wrong), ("bob", rest)])
            refused(self, BadShares, shares_of, [("bob", rest), ("ann", wrong)])
            refused(self, BadShares, shares_of, [("ann", rest), ("ann", wrong)])
            refused(self, BadShares, shares_of, [("ann", wrong)])

    def test_less_and_more_than_one(self):
        for share in ((1, 2), (2, 1), (BIG - 1, BIG), (BIG + 1, BIG), (1, BIG), (BIG, 1)):
            refused(self, BadShares, shares_of, [("ann", share)])
        refused(self, BadShares, shares_of, [("ann", (1, 2)), ("bob", (1, 3))])
        refused(self, BadShares, shares_of, [("ann", (1, 2)), ("bob", (2, 3))])
        refused(self, BadShares, shares_of, [("ann", (1, 1)), ("ann", (1, 1))])

    def test_bad_shares_goes_ahead_of_too_fine(self):
        fine = [("ann", (1, BIG + 1)), ("bob", (BIG, BIG + 1))]
        refused(self, TooFine, shares_of, fine)
        refused(self, BadShares, shares_of, fine[:1])
        refused(self, BadShares, shares_of, fine + [("cid", (1, BIG + 1))])
        refused(self, BadShares, shares_of, fine + [("cid", (0, 1))])
        refused(self, BadShares, shares_of, fine + [("cid", (-1, BIG + 1)), ("cid", (1, BIG + 1))])
        refused(self, BadShares, shares_of, [("Ann", (1, BIG + 1)), ("bob", (BIG, BIG + 1))])
        refused(self, BadShares, shares_of, [("ann", (1, BIG + 1)), ("", (BIG, BIG + 1))])

    def test_at_finest_and_beyond(self):
        for bottom in (BIG - 1, BIG):
            shares = shares_of([("bob", (bottom - 1, bottom)), ("ann", (1, bottom))])
            self.assertEqual(shares, (("ann", (1, bottom)), ("bob", (bottom - 1, bottom))))
        for bottom in (BIG + 1, BIG * 10, BIG ** 2):
            refused(self, TooFine, shares_of, [("bob", (bottom - 1, bottom)), ("ann", (1, bottom))])
            refused(self, TooFine, shares_of, [("a", (1, 2)), ("b", pair(Fraction(1, 2) - Fraction(1, bottom))),
                                               ("c", (1, bottom))])

    def test_what_counts_is_the_bottom_of_what_would_be_made(self):
        self.assertEqual(shares_of([("ann", (1, BIG + 1)), ("ann", (BIG, BIG + 1))]), WHOLE)
        some = [("ann", (1, BIG + 1)), ("bob", (1, 2)), ("ann", pair(Fraction(1, 2) - Fraction(1, BIG + 1)))]
        self.assertEqual(shares_of(some), HALVES)
        some = [("ann", (1, 10 ** 40)), ("ann", (1, 10 ** 40 + 1)), ("bob", (1, 2))]
        rest = 1 - sum(Fraction(*share) for name, share in some)
        refused(self, TooFine, shares_of, some + [("cid", pair(rest))])

    def test_changing_the_pairs_later_changes_nothing(self):
        pairs = [("bob", (1, 2)), ("ann", (1, 2))]
        shares = shares_of(pairs)
        pairs.clear()
        self.assertEqual(shares, HALVES)
        self.assertEqual(shares_of([("bob", (1, 2)), ("ann", (1, 2))]), HALVES)

    def test_pairs_that_are_refused_are_as_they_were(self):
        pairs = [("bob", (1, 2)), (["ann"], (1, 2))]
        refused(self, BadShares, shares_of, pairs)
        self.assertEqual(pairs, [("bob", (1, 2)), (["ann"], (1, 2))])


class Held(Shares):
    def test_share_of(self):
        self.assertEqual(share_of(THREE, "ann"), (1, 2))
        self.assertEqual(share_of(THREE, "bob"), (1, 3))
        self.assertEqual(share_of(THREE, "cid"), (1, 6))
        self.assertEqual(share_of(WHOLE, "ann"), (1, 1))

    def test_of_a_name_that_holds_nothing(self):
        for name in ("a", "an", "anna", "dot", "zoe"):
            self.assertEqual(share_of(THREE, name), (0, 1))
            self.assertEqual(share_of(WHOLE, name), (0, 1))

    def test_owners(self):
        self.assertEqual(owners(THREE), ["ann", "bob", "cid"])
        self.assertEqual(owners(WHOLE), ["ann"])
        self.assertIs(type(owners(THREE)), list)

    def test_many(self):
        mix = Mix(4)
        for turn in range(100):
            shares = mixed_shares(mix, 9)
            held = plain(shares)
            self.assertEqual(owners(shares), sorted(held))
            for name in NAMES:
                self.assertEqual(share_of(shares, name), pair(held.get(name, Fraction(0))))

    def test_what_was_told_is_the_askers_own(self):
        names = owners(THREE)
        names.clear()
        self.assertEqual(owners(THREE), ["ann", "bob", "cid"])
        names = owners(THREE)
        names.append("dot")
        self.assertEqual(owners(THREE), ["ann", "bob", "cid"])
        self.assertEqual(THREE, (("ann", (1, 2)), ("bob", (1, 3)), ("cid", (1, 6))))


class HandedOn(Shares):
    def test_a_part_to_an_owner_and_to_a_new_name(self):
        self.assertEqual(hand_on(HALVES, "ann", "bob", (1, 4)), (("ann", (1, 4)), ("bob", (3, 4))))
        self.assertEqual(hand_on(HALVES, "bob", "ann", (1, 3)), (("ann", (5, 6)), ("bob", (1, 6))))
        self.assertEqual(hand_on(HALVES, "bob", "aa", (1, 4)), (("aa", (1, 4)), ("ann", (1, 2)), ("bob", (1, 4))))
        self.assertEqual(hand_on(WHOLE, "ann", "zoe", (1, 3)), (("ann", (2, 3)), ("zoe", (1, 3))))

    def test_the_whole_share(self):
        self.assertEqual(hand_on(HALVES, "ann", "bob", (1, 2)), (("bob", (1, 1)),))
        self.assertEqual(hand_on(HALVES, "ann", "zoe", (1, 2)), (("bob", (1, 2)), ("zoe", (1, 2))))
        self.assertEqual(hand_on(WHOLE, "ann", "bob", (1, 1)), (("bob", (1, 1)),))

    def test_to_oneself(self):
        for part in ((1, 4), (1, 2), (1, BIG), (1, BIG + 1), (1, BIG ** 3)):
            self.assertEqual(hand_on(HALVES, "ann", "ann", part), HALVES)
            self.assertEqual(hand_on(THREE, "ann", "ann", part), THREE)
        self.assertEqual(hand_on(WHOLE, "ann", "ann", (1, 1)), WHOLE)

    def test_too_little(self):
        for taker in ("ann", "bob", "zoe"):
            for part in ((2, 3), (1, 1), (3, 2), (BIG // 2 + 1, BIG), pair(Fraction(1, 2) + Fraction(1, BIG))):
                refused(self, TooLittle, hand_on, HALVES, "ann", taker, part)
            for part in ((1, 1), (1, 2), (1, BIG)):
                refused(self, TooLittle, hand_on, HALVES, "zoe", taker, part)
        refused(self, TooLittle, hand_on, WHOLE, "ann", "bob", (BIG + 1, BIG))
        refused(self, TooLittle, hand_on, WHOLE, "ann", "ann", (BIG + 1, BIG))

    def test_too_little_goes_ahead_of_too_fine(self):
        for taker in ("ann", "bob", "zoe"):
            refused(self, TooLittle, hand_on, HALVES, "zoe", taker, (1, BIG + 1))
            refused(self, TooLittle, hand_on, HALVES, "ann", taker, (BIG, BIG + 1))

    def test_too_fine(self):
        self.assertEqual(hand_on(WHOLE, "ann", "bob", (1, BIG)), (("ann", (BIG - 1, BIG)), ("bob", (1, BIG))))
        refused(self, TooFine, hand_on, WHOLE, "ann", "bob", (1, BIG + 1))
        refused(self, TooFine, hand_on, WHOLE, "ann", "bob", (BIG, BIG + 1))
        refused(self, TooFine, hand_on, HALVES, "ann", "bob", (1, BIG + 1))
        self.assertEqual(share_of(hand_on(HALVES, "ann", "zoe", (1, BIG)), "zoe"), (1, BIG))

    def test_too_fine_for_the_giver_alone(self):
        refused(self, TooFine, hand_on, HALVES, "ann", "zoe", (1, BIG - 1))
        due = handed(HALVES, "ann", "zoe", (1, BIG - 1))
        self.assertEqual([name for name in due if due[name].denominator > BIG], ["ann"])

    def test_too_fine_for_the_taker_alone(self):
        one, other = 10 ** 31, 10 ** 31 + 1
        held = {
            "ann": Fraction(1, 2 * one), "bob": Fraction(1, 2 * other),
            "cid": Fraction(one - 1, 2 * one), "dot": Fraction(other - 1, 2 * other),
        }
        shares = shares_from(held)
        self.good(shares)
        due = handed(shares, "ann", "bob", (1, 2 * one))
        self.assertEqual([name for name in due if due[name].denominator > BIG], ["bob"])
        refused(self, TooFine, hand_on, shares, "ann", "bob", (1, 2 * one))
        self.same(hand_on(shares, "ann", "cid", (1, 2 * one)), handed(shares, "ann", "cid", (1, 2 * one)))

    def test_all_bottoms_are_looked_at(self):
        held = {"ann": Fraction(1, 2), "bob": Fraction(1, 2 * BIG + 2)}
        held["cid"] = 1 - sum(held.values())
        refused(self, TooFine, hand_on, shares_from(held), "ann", "dot", (1, 4))
        refused(self, TooFine, hand_on, shares_from(held), "ann", "ann", (1, 4))

    def test_what_was_too_fine_may_go(self):
        held = {"ann": Fraction(1, BIG), "bob": Fraction(BIG - 1, BIG)}
        self.assertEqual(hand_on(shares_from(held), "ann", "bob", (1, BIG)), (("bob", (1, 1)),))
        self.assertEqual(hand_on(shares_from(held), "bob", "ann", (BIG // 2 - 1, BIG)), HALVES)

    def test_many(self):
        mix = Mix(7)
        for turn in range(600):
            shares = mixed_shares(mix)
            before = tuple(shares)
            giver = mix.one_of(NAMES) if turn % 5 == 0 else mix.one_of(owners(shares))
            taker = mix.one_of(NAMES)
            part = Fraction(1 + mix.below(12), 12) * (Fraction(*share_of(shares, giver)) or 1)
            if turn % 7 == 0:
                part = Fraction(1 + mix.below(12), 12)
            if plain(shares).get(giver, 0) < part:
                refused(self, TooLittle, hand_on, shares, giver, taker, pair(part))
            else:
                self.same(hand_on(shares, giver, taker, pair(part)), handed(shares, giver, taker, pair(part)))
            self.assertEqual(shares, before)

    def test_a_row_of_many(self):
        mix = Mix(8)
        shares = WHOLE
        fine = 0
        for turn in range(1200):
            giver, taker = mix.one_of(owners(shares)), mix.one_of(NAMES)
            part = Fraction(*share_of(shares, giver)) * Fraction(1, 1 + mix.below(9))
            due = handed(shares, giver, taker, pair(part))
            if is_too_fine(due):
                fine += 1
                refused(self, TooFine, hand_on, shares, giver, taker, pair(part))
                shares = WHOLE
            else:
                shares = hand_on(shares, giver, taker, pair(part))
                self.same(shares, due)
        self.assertGreater(fine, 1)


class Mixed(Shares):
    def test_names_of_both(self):
        self.assertEqual(mixed(WHOLE, 1, (("bob", (1, 1)),), 1), HALVES)
        self.assertEqual(mixed(WHOLE, 1, (("bob", (1, 1)),), 3), (("ann", (1, 4)), ("bob", (3, 4))))
        self.assertEqual(mixed(WHOLE, 3, (("bob", (1, 1)),), 1), (("ann", (3, 4)), ("bob", (1, 4))))
        self.assertEqual(mixed(HALVES, 2, THREE, 3), (("ann", (1, 2)), ("bob", (2, 5)), ("cid", (1, 10))))
        self.assertEqual(mixed((("zoe", (1, 1)),), 1, WHOLE, 2), (("ann", (2, 3)), ("zoe", (1, 3))))

    def test_the_same_shares_twice(self):
        for many in (1, 2, 63, 10 ** 70):
            for more in (1, 5, 64, 10 ** 80 + 1):
                self.assertEqual(mixed(THREE, many, THREE, more), THREE)
                self.assertEqual(mixed(WHOLE, many, WHOLE, more), WHOLE)

    def test_many_cells(self):
        other = (("bob", (1, 1)),)
        self.assertEqual(mixed(WHOLE, BIG - 1, other, 1), (("ann", (BIG - 1, BIG)), ("bob", (1, BIG))))
        self.assertEqual(mixed(WHOLE, 7 * BIG ** 5, other, 7 * BIG ** 5), HALVES)
        self.assertEqual(mixed(WHOLE, 10 ** 900, other, 3 * 10 ** 900), (("ann", (1, 4)), ("bob", (3, 4))))

    def test_too_fine(self):
        other = (("bob", (1, 1)),)
        refused(self, TooFine, mixed, WHOLE, BIG, other, 1)
        refused(self, TooFine, mixed, WHOLE, 1, other, BIG)
        refused(self, TooFine, mixed, HALVES, 1, (("bob", (1, 1)),), BIG)
        refused(self, TooFine, mixed, WHOLE, BIG ** 2, other, BIG + 1)
        one = (("ann", (1, 10 ** 31)), ("bob", (10 ** 31 - 1, 10 ** 31)))
        two = (("ann", (1, 10 ** 31 + 1)), ("bob", (10 ** 31, 10 ** 31 + 1)))
        refused(self, TooFine, mixed, one, 1, two, 1)
        refused(self, TooFine, mixed, two, 5, one, 7)

    def test_some_bottoms_fine_and_others_not(self):
        bottom = 10 ** 59 + 9
        least = Fraction(1, bottom)
        one = shares_from({"ann": least, "bob": Fraction(1, 2) - least, "cid": Fraction(1, 2)})
        self.assertLessEqual(max(share[1] for name, share in one), BIG)
        refused(self, TooFine, mixed, one, 1, (("cid", (1, 1)),), 99)

    def test_many_and_turned_about(self):
        mix = Mix(11)
        for turn in range(400):
            one, other = mixed_shares(mix), mixed_shares(mix)
            many, more = 1 + mix.below(10 ** (1 + turn % 12)), 1 + mix.below(64)
            before = (tuple(one), tuple(other))
            self.same(mixed(one, many, other, more), blended(one, many, other, more))
            self.assertEqual(mixed(other, more, one, many), mixed(one, many, other, more))
            self.assertEqual((one, other), before)

    def test_fine_ones(self):
        mix = Mix(12)
        seen = {True: 0, False: 0}
        for turn in range(300):
            one, other = mixed_shares(mix, 3, 12), mixed_shares(mix, 3, 12)
            many, more = 1 + mix.below(10 ** (20 + turn % 40)), 1 + mix.below(10 ** 20)
            due = blended(one, many, other, more)
            seen[is_too_fine(due)] += 1
            if is_too_fine(due):
                refused(self, TooFine, mixed, one, many, other, more)
            else:
                self.same(mixed(one, many, other, more), due)
        self.assertGreater(min(seen.values()), 20)


class Pressed(Shares):
    def due(self, shares, giver, taker, part):
        """Holds what is told against [23], and tells it."""
        before = tuple(shares)
        told_now = pressed(shares, giver, taker, part)
        held, losses = squeezed(shares, giver, taker, part)
        self.assertEqual([type(told_now), len(told_now), type(told_now[1])], [tuple, 2, tuple])
        self.same(told_now[0], held)
        self.assertEqual(told_now[1], losses)
        for loss in told_now[1]:
            self.assertEqual([type(loss), type(loss[1])], [tuple, tuple])
            self.assertGreater(Fraction(*loss[1]), 0)
        self.assertEqual(shares, before)
        return told_now

    def test_a_part_that_the_giver_holds(self):
        self.assertEqual(pressed(HALVES, "ann", "bob", (1, 4)), ((("ann", (1, 4)), ("bob", (3, 4))), ()))
        self.assertEqual(pressed(HALVES, "ann", "bob", (1, 2)), ((("bob", (1, 1)),), ()))
        self.assertEqual(
            pressed(THREE, "ann", "zoe", (1, 2)),
            ((("bob", (1, 3)), ("cid", (1, 6)), ("zoe", (1, 2))), ()),
        )
        self.assertEqual(pressed(WHOLE, "ann", "bob", (1, 1)), ((("bob", (1, 1)),), ()))

    def test_a_part_of_which_some_lacks(self):
        self.assertEqual(
            pressed(THREE, "ann", "zoe", (3, 4)),
            ((("bob", (1, 6)), ("cid", (1, 12)), ("zoe", (3, 4))), (("bob", (1, 6)), ("cid", (1, 12)))),
        )
        self.assertEqual(
            pressed(THREE, "cid", "ann", (1, 3)),
            ((("ann", (5, 6)), ("bob", (1, 6))), (("bob", (1, 6)),)),
        )

    def test_a_part_of_which_all_lacks(self):
        self.assertEqual(
            pressed(HALVES, "zoe", "cid", (1, 2)),
            ((("ann", (1, 4)), ("bob", (1, 4)), ("cid", (1, 2))), (("ann", (1, 4)), ("bob", (1, 4)))),
        )
        self.assertEqual(
            pressed(HALVES, "zoe", "cid", (1, 1)),
            ((("cid", (1, 1)),), (("ann", (1, 2)), ("bob", (1, 2)))),
        )
        self.assertEqual(
            pressed(HALVES, "zoe", "bob", (1, 4)),
            ((("ann", (1, 4)), ("bob", (3, 4))), (("ann", (1, 4)),)),
        )

    def test_more_than_all_but_the_taker_hold(self):
        self.assertEqual(pressed(HALVES, "ann", "bob", (3, 4)), ((("bob", (1, 1)),), ()))
        self.assertEqual(pressed(HALVES, "ann", "bob", (1, 1)), ((("bob", (1, 1)),), ()))
        self.assertEqual(pressed(HALVES, "zoe", "bob", (1, 1)), ((("bob", (1, 1)),), (("ann", (1, 2)),)))
        self.assertEqual(pressed(THREE, "bob", "ann", (1, 1)), ((("ann", (1, 1)),), (("cid", (1, 6)),)))

    def test_a_taker_who_holds_all_or_nearly_all(self):
        self.assertEqual(pressed(WHOLE, "bob", "ann", (1, 3)), (WHOLE, ()))
        self.assertEqual(pressed(WHOLE, "bob", "ann", (1, 1)), (WHOLE, ()))
        nearly = (("ann", (BIG - 1, BIG)), ("bob", (1, BIG)))
        self.assertEqual(pressed(nearly, "bob", "ann", (1, 2)), (WHOLE, ()))
        self.assertEqual(pressed(nearly, "cid", "ann", (1, 2)), (WHOLE, (("bob", (1, BIG)),)))

    def test_giver_and_taker_one(self):
        for shares in (WHOLE, HALVES, THREE):
            for name in ("ann", "bob", "zoe"):
                for part in ((1, 4), (1, 1), (1, BIG + 1)):
                    self.assertEqual(pressed(shares, name, name, part), (shares, ()))

    def test_too_fine(self):
        self.assertEqual(pressed(WHOLE, "ann", "bob", (1, BIG)), ((("ann", (BIG - 1, BIG)), ("bob", (1, BIG))), ()))
        refused(self, TooFine, pressed, WHOLE, "ann", "bob", (1, BIG + 1))
        refused(self, TooFine, pressed, WHOLE, "cid", "bob", (1, BIG + 1))
        refused(self, TooFine, pressed, HALVES, "cid", "bob", (1, BIG - 1))
        refused(self, TooFine, pressed, THREE, "cid", "zoe", (BIG // 2, BIG + 1))
        fine = shares_from({"ann": Fraction(1, BIG + 1), "bob": Fraction(BIG, BIG + 1)})
        refused(self, TooFine, pressed, fine, "bob", "bob", (1, 2))
        self.assertEqual(pressed(HALVES, "ann", "bob", (BIG, BIG + 1)), ((("bob", (1, 1)),), ()))

    def test_losses_have_the_figures_that_they_need(self):
        low, high, times = 10 ** 40 + 1, 10 ** 55 + 3, 7
        top = high - low * times
        shares = shares_from({"x": Fraction(1, low), "y": Fraction(low - 1, low)})
        told_now = self.due(shares, "nobody", "t", (top, high))
        self.assertGreater(min(share[1] for name, share in told_now[1]), BIG)
        self.assertEqual([name for name, share in told_now[1]], ["x", "y"])

    def test_many(self):
        mix = Mix(13)
        for turn in range(900):
            shares = mixed_shares(mix, 1 + turn % 9, 3)
            giver = mix.one_of(NAMES) if turn % 2 else mix.one_of(owners(shares))
            taker = mix.one_of(NAMES) if turn % 3 else mix.one_of(owners(shares))
            part = pair(Fraction(1 + mix.below(24), 24))
            told_now = self.due(shares, giver, taker, part)
            self.assertNotIn(giver, [name for name, share in told_now[1]])
            self.assertNotIn(taker, [name for name, share in told_now[1]])
            held, now = plain(shares), plain(told_now[0])
            got = now.get(taker, 0) - held.get(taker, 0)
            rest = 1 - held.get(taker, 0)
            self.assertEqual(got, 0 if giver == taker else min(Fraction(*part), rest))
            rates = {Fraction(*share) / held[name] for name, share in told_now[1]}
            self.assertLessEqual(len(rates), 1)

    def test_a_row_of_many(self):
        mix = Mix(14)
        shares = THREE
        fine = 0
        for turn in range(300):
            giver, taker = mix.one_of(NAMES), mix.one_of(NAMES)
            part = (1, 2 + mix.below(9))
            if is_too_fine(squeezed(shares, giver, taker, part)[0]):
                fine += 1
                refused(self, TooFine, pressed, shares, giver, taker, part)
                shares = THREE
            else:
                shares = self.due(shares, giver, taker, part)[0]
        self.assertGreater(fine, 1)


if __name__ == "__main__":
    unittest.main()
