"""[L1] to [L5]: led_turns, turns_of, turns_hold, led_deed, barring_road."""

import unittest
from random import Random
from time import perf_counter

from tests.samples import (FORK, FULL_4, KITE, ODD_VALUES, PAIR, ROUND_5, ROW, ROW_5, STAR, WIDE_FORK, every_standing,
                           mixed)
from tests.walking import (CLASS_300, all_classes, great_webs, let_here, parted_by, some_parted, some_small_webs,
                           some_standing)
from unevenroads.errors import TooMany, Unfit
from unevenroads.games import barring_road, led_deed, led_turns, turns_hold, turns_of
from unevenroads.renamed import renamed_standing, renamed_web
from unevenroads.shapes import path_web, ring_web
from unevenroads.wallrows import standing_at

GOALS = ((0, 1, 1, 1), (1, 1, 0, 0), (1, 1, 1, 0))


def played(web, one_class, goals):
    """The turns of all standings of a class, None where there are none: the game itself, turn by turn."""
    turns = {one: 0 for one in one_class if one in goals}
    ends = {one: let_here(web, one) for one in one_class}
    for t in range(1, len(one_class) + 1):
        sure = dict(turns)
        for one in one_class:
            if one not in sure:
                # Whatever road the foe names, some deed on another one leads to where a goal is sure in t - 1 turns.
                answers = [[deed for deed, end in ends[one] if deed[0] != road and end in sure]
                           for road in range(len(web[1]))]
                if all(answers):
                    turns[one] = t
        if len(turns) == len(sure):
            break
    return {one: turns.get(one) for one in one_class}


class GamesTest(unittest.TestCase):

    def too_many(self, function, *arguments):
        with self.assertRaises(TooMany) as caught:
            function(*arguments)
        self.assertEqual(caught.exception.limit, 300)

    def test_examples(self):
        row = ROW_5
        standings = ((1, 1, 0, 0), (1, 1, 1, 1), (0, 1, 1, 0), (0, 1, 0, 0), (0, 0, 1, 0), (1, 0, 1, 0))
        self.assertEqual([led_turns(row, one, GOALS) for one in standings], [0, 1, 1, 2, None, None])
        table = turns_of(row, (1, 0, 0, 0), GOALS)
        self.assertEqual((len(table), table[:4]), (10, (((0, 0, 0, 1), None), ((0, 0, 1, 0), None),
                                                        ((0, 0, 1, 1), None), ((0, 1, 0, 0), 2))))
        self.assertEqual([turns_hold(row, (1, 0, 0, 0), GOALS, value) for value in (table, table[:9], list(table))],
                         [True, False, False])
        self.assertIsNone(led_turns(row, (0, 1, 0, 0), GOALS[:1]))
        self.assertIsNone(led_turns(row, (0, 0, 0, 0), GOALS))
        self.assertEqual(led_turns(row, (0, 0, 0, 0), ((0, 0, 0, 0),)), 0)
        self.too_many(led_turns, (5, row[1], (9, 9, 9, 9)), (1, 0, 0, 0), ((0, 1, 0, 0),))

    def test_examples_of_deeds(self):
        row = ROW_5
        self.assertEqual([led_deed(row, (1, 1, 1, 1), GOALS, 0), led_deed(row, (1, 1, 1, 1), GOALS, 3),
                          led_deed(row, (0, 1, 0, 0), GOALS, 2)], [(3, -1), (0, -1), (0, 1)])
        self.assertEqual([barring_road(row, one, GOALS) for one in ((0, 0, 1, 0), (0, 0, 0, 1), (1, 0, 1, 0))],
                         [1, 0, 0])
        self.assertRaises(Unfit, led_deed, row, (0, 0, 1, 0), GOALS, 1)
        self.assertRaises(Unfit, barring_road, row, (0, 1, 0, 0), GOALS)

    def test_by_name(self):
        standing = (0, 1, 0, 0)
        self.assertEqual(led_turns(web=ROW_5, standing=standing, goals=GOALS), 2)
        table = turns_of(web=ROW_5, standing=standing, goals=GOALS)
        self.assertIs(turns_hold(web=ROW_5, standing=standing, goals=GOALS, value=table), True)
        self.assertEqual(led_deed(web=ROW_5, standing=standing, goals=GOALS, road=2), (0, 1))
        self.assertEqual(barring_road(web=ROW_5, standing=(0, 0, 1, 0), goals=GOALS), 1)

    def goals_for(self, web, one_class, dice):
        """Some tuples of goals: of this class, of others, all of them."""
        standings = every_standing(web)
        found = [tuple(sorted(dice.sample(one_class, min(many, len(one_class))))) for many in (1, 2, 3, 5, 9)]
        found.extend([tuple(sorted(dice.sample(standings, min(many, len(standings))))) for many in (1, 4, 20)])
        found.append(tuple(sorted(one_class)))
        found.extend([tuple(sorted([one for one in one_class if one[road] == web[2][road]])) for road in (0, -1)])
        return [goals for goals in found if 0 < len(goals) <= 300]

    def test_the_game_itself_on_small_webs(self):
        dice = Random(161)
        longest = 0
        for web in [PAIR, ROW, ROW_5, ROUND_5, FORK, WIDE_FORK, FULL_4, KITE, STAR] + some_small_webs()[::6]:
            for one_class in [one_class for one_class in all_classes(web) if len(one_class) <= 300][:5]:
                for goals in self.goals_for(web, one_class, dice):
                    right = played(web, one_class, goals)
                    standing = dice.choice(one_class)
                    table = turns_of(web, standing, goals)
                    self.assertEqual(table, tuple([(one, right[one]) for one in sorted(right)]))
                    longest = max([longest] + [turns for turns in right.values() if turns])
                    self.assertIs(turns_hold(web, standing, goals, table), True)
                    for one in dice.sample(one_class, min(5, len(one_class))):
                        self.assertEqual(led_turns(web, one, goals), right[one])
                        self.check_deeds(web, one, goals, right)
        self.assertGreater(longest, 4)

    def check_deeds(self, web, one, goals, right):
        """Deeds against each road that the foe can name, or the road that the foe names."""
        roads = range(len(web[1]))
        ends = dict(let_here(web, one))
        if right[one]:
            for road in roads:
                deed = led_deed(web, one, goals, road)
                self.assertNotEqual(deed[0], road)
                self.assertLess(right[ends[deed]], right[one])
        else:
            for road in roads:
                self.assertRaises(Unfit, led_deed, web, one, goals, road)
        if right[one] is not None:
            self.assertRaises(Unfit, barring_road, web, one, goals)
        else:
            barring = [road for road in roads
                       if not [1 for deed, end in ends.items() if deed[0] != road and right[end] is not None]]
            self.assertEqual(barring_road(web, one, goals), barring[0])

    def test_the_leader_comes_to_a_goal(self):
        dice = Random(162)
        for web in (ROW_5, STAR, KITE, FULL_4, path_web(7, 1)):
            for one_class in [one_class for one_class in all_classes(web) if 3 < len(one_class) <= 300]:
                goals = tuple(sorted(dice.sample(one_class, max(2, len(one_class) // 4))))
                for one in dice.sample(one_class, 4):
                    turns = led_turns(web, one, goals)
                    for _ in range(turns or 0):
                        if one not in goals:
                            deed = led_deed(web, one, goals, dice.randrange(len(web[1])))
                            one = dict(let_here(web, one))[deed]
                    if turns is not None:
                        self.assertIn(one, goals)

    def test_the_foe_keeps_the_leader_away(self):
        dice = Random(163)
        for web in (ROW_5, STAR, ROUND_5, path_web(7, 1)):
            for one_class in [one_class for one_class in all_classes(web) if 3 < len(one_class) <= 300]:
                goals = tuple(sorted(dice.sample(one_class, 2)))
                for one in [one for one in one_class if led_turns(web, one, goals) is None][:3]:
                    for _ in range(20):
                        road = barring_road(web, one, goals)
                        free = [end for deed, end in let_here(web, one) if deed[0] != road]
                        one = dice.choice(free + [one])
                        self.assertIsNone(led_turns(web, one, goals))

    def test_one_goal_and_all_goals_and_goals_of_other_classes(self):
        for web in (ROW_5, ROUND_5, STAR, FORK):
            classes = [one_class for one_class in all_classes(web) if len(one_class) > 1]
            for one_class in classes:
                goal = one_class[1]
                told = turns_of(web, one_class[0], (goal,))
                self.assertEqual([pair for pair in told if pair[1] is not None], [(goal, 0)])
                every = tuple(sorted(one_class))
                self.assertEqual(turns_of(web, one_class[0], every), tuple([(one, 0) for one in every]))
                self.assertRaises(Unfit, led_deed, web, one_class[0], every, 0)
                for other in all_classes(web):
                    if other != one_class:
                        strangers = tuple(sorted(other))
                        self.assertEqual(turns_of(web, goal, strangers), tuple([(one, None) for one in every]))
                        both = tuple(sorted(other + [goal]))
                        self.assertEqual(turns_of(web, one_class[0], both), told)
                        self.assertEqual(barring_road(web, goal, strangers), 0)

    def test_a_goal_more(self):
        dice = Random(164)
        for web in (ROW_5, ROUND_5, STAR, KITE):
            for one_class in [one_class for one_class in all_classes(web) if len(one_class) > 4]:
                goals = dice.sample(one_class, 4)
                for many in (1, 2, 3):
                    fewer = dict(turns_of(web, goals[0], tuple(sorted(goals[:many]))))
                    more = dict(turns_of(web, goals[0], tuple(sorted(goals[:many + 1]))))
                    for one, turns in fewer.items():
                        self.assertTrue(turns is None or more[one] is not None and more[one] <= turns)

    def test_turns_of_neighbours(self):
        dice = Random(165)
        for web in (ROW_5, STAR, KITE, FULL_4, path_web(8, 1)):
            for one_class in [one_class for one_class in all_classes(web) if 4 < len(one_class) <= 300]:
                table = dict(turns_of(web, one_class[0], tuple(sorted(dice.sample(one_class, len(one_class) // 3)))))
                for one, turns in table.items():
                    if turns:
                        fewer = [(deed[0], table[end]) for deed, end in let_here(web, one)
                                 if table[end] is not None and table[end] < turns]
                        self.assertIn(turns - 1, [end for _, end in fewer])
                        self.assertGreater(len(set([road for road, _ in fewer])), 1)

    def test_tables_that_do_not_hold(self):
        standing = (1, 0, 0, 0)
        table = turns_of(ROW_5, standing, GOALS)
        changed = [table[:at] + (pair,) + table[at + 1:] for at, (one, turns) in enumerate(table) for pair in (
            [one, turns], (one,), (one, turns, None), (list(one), turns), (one, 5), (one, None if turns == 0 else 0),
            (one, "None"), (one, ()), (one[:3], turns), (one + (0,), turns),
            (tuple([str(load) for load in one]), turns),
            (tuple([load == 1 for load in one]), turns), ((one[0] == 1,) + one[1:], turns), None, turns, one)]
        for at, (one, turns) in enumerate(table):
            if turns in (0, 1):
                changed.append(table[:at] + ((one, turns == 1),) + table[at + 1:])
            if turns is None:
                changed.append(table[:at] + ((one, False),) + table[at + 1:])
        changed.extend([table[::-1], table[1:], table[:-1], table + table[:1], list(table),
                        [list(pair) for pair in table],
                        (), dict(table), tuple([pair[0] for pair in table]), table[:3] + table[4:3:-1] + table[5:]])
        for value in changed + ODD_VALUES:
            self.assertIs(turns_hold(ROW_5, standing, GOALS, value), False, value)
        self.assertIs(turns_hold(ROW_5, standing, GOALS, tuple([(tuple(one), turns) for one, turns in table])), True)
        self.assertIs(turns_hold(ROW_5, (1, 0, 1, 0), GOALS, table), False)
        self.assertIs(turns_hold(ROW_5, (1, 1, 1, 1), GOALS, table), True)
        self.assertIs(turns_hold(ROW_5, (0,) * 4, GOALS, (((0,) * 4, None),)), True)
        self.assertIs(turns_hold(ROW_5, (0,) * 4, GOALS, (((False,) * 4, None),)), False)

    def test_just_300_standings_and_more(self):
        one = (1, 0, 0, 0)
        table = turns_of(CLASS_300, one, ((0, 0, 1, 0), (0, 1, 0, 0), (2, 4, 6, 1)))
        self.assertEqual(len(table), 300)
        every = tuple([standing for standing, _ in table])
        self.assertEqual(turns_of(CLASS_300, one, every), tuple([(standing, 0) for standing in every]))
        right = played(CLASS_300, list(every), every[::3])
        self.assertEqual(dict(turns_of(CLASS_300, one, every[::3])), right)
        # 4 * 4 * 4 * 5 standings, 16 of them even: 304 are joined.
        more = CLASS_300[:2] + ((3, 3, 3, 4),)
        goals = ((0, 0, 0, 0), (0, 0, 0, 1), one)
        for function, further in ((led_turns, ()), (turns_of, ()), (turns_hold, (None,)), (turns_hold, (((one, 0),),)),
                                  (led_deed, (0,)), (barring_road, ())):
            self.too_many(function, more, one, goals, *further)
            self.too_many(function, more, (0, 0, 0, 1), ((0, 0, 0, 0),), *further)
        for web in (more, path_web(24, 9)):
            bare = (0,) * len(web[1])
            self.assertEqual(led_turns(web, bare, (bare,)), 0)
            self.assertIsNone(led_turns(web, bare, ((1,) + bare[1:],)))
            self.assertEqual(turns_of(web, bare, (bare,)), ((bare, 0),))
            self.assertEqual(turns_of(web, bare, ((1,) + bare[1:],)), ((bare, None),))
            self.assertEqual(barring_road(web, bare, ((1,) + bare[1:],)), 0)
            self.assertRaises(Unfit, led_deed, web, bare, (bare,), 0)
            self.assertRaises(Unfit, led_deed, web, bare, ((1,) + bare[1:],), 0)
            self.assertRaises(Unfit, barring_road, web, bare, (bare,))

    def test_roads_on_which_two_deeds_are_let(self):
        # On a road that bears two both deeds can be let: it is one road all the same, and the foe names it.
        web = (3, ((0, 1), (1, 2)), (2, 2))
        self.assertEqual([deed for deed, _ in let_here(web, (1, 1))], [(0, -1), (0, 1), (1, -1), (1, 1)])
        goals = ((0, 1), (2, 1))
        self.assertIsNone(led_turns(web, (1, 1), goals))
        self.assertEqual(barring_road(web, (1, 1), goals), 0)
        self.assertEqual(led_turns(web, (1, 1), ((0, 1), (1, 2))), 1)

    def test_new_names(self):
        dice = Random(166)
        for web, one in [(ROW_5, (1, 0, 0, 0)), (STAR, (1, 1, 1, 1, 1, 1)), (KITE, (1, 0, 0, 0, 0))]:
            goals = tuple(sorted(dice.sample([end for end, _ in turns_of(web, one, (one,))], 5)))
            for names in mixed(web[0], 3):
                named = renamed_web(web, names)[0]
                told = [(renamed_standing(web, names, end), turns) for end, turns in turns_of(web, one, goals)]
                theirs = tuple(sorted([renamed_standing(web, names, goal) for goal in goals]))
                self.assertEqual(dict(turns_of(named, renamed_standing(web, names, one), theirs)), dict(told))

    def test_no_call_takes_long(self):
        dice = Random(167)
        web = some_parted(dice, 12)
        calls = [(web, standing_at(web, ("near",), 7)), (CLASS_300, (1, 0, 0, 0))]
        for web in (path_web(24, 1), ring_web(17, 1)):
            calls.append((web, parted_by(web, (3, 9), 1)))
        for web, standing in calls + [(web, some_standing(web, dice)) for web in great_webs()]:
            begin = perf_counter()
            try:
                members = [one for one, _ in turns_of(web, standing, (standing,))]
                for goals in (tuple(members[::2]), tuple(members[:5]), tuple(members)):
                    self.assertIs(turns_hold(web, standing, goals, turns_of(web, standing, goals)), True)
            except TooMany:
                pass
            self.assertLess(perf_counter() - begin, 4)
