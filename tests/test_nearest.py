"""The search behind point 10: the point nearest to nought within walls, or weights that show that there is none."""

import random

from helpers import Case
from whosefirst.nearest import Wall, nearest
from whosefirst.ratios import Ratio


def times(one, other):
    total = Ratio(0)
    for part, factor in zip(one, other):
        total = total + Ratio.of(part) * factor
    return total


class NearestPoints(Case):

    def is_nearest(self, walls, axes, found):
        """Forces that hold a point show that it is the nearest one; forces that hold nothing, that there is none."""
        self.assertEqual(len(found.weights), len(walls))
        for wall, weight in zip(walls, found.weights):
            self.assertTrue(wall.is_tight or weight.sign >= 0)
        pulled = [times(found.weights, [wall.normal[at] for wall in walls]) for at in range(axes)]
        if found.numbers is None:
            self.assertFalse(any(pulled))
            self.assertEqual(times(found.weights, [wall.least for wall in walls]).sign, 1)
            return
        point = [Ratio(number, found.bottom) for number in found.numbers]
        self.assertEqual(pulled, point)
        for wall, weight in zip(walls, found.weights):
            over = times(wall.normal, point) - wall.least
            self.assertTrue(over.sign == 0 or (over.sign > 0 and not wall.is_tight and weight.sign == 0))

    def test_random_walls(self):
        source = random.Random(20)
        met = {True: 0, False: 0}
        for _ in range(4000):
            axes = source.choice([1, 2, 3])
            most = source.choice([1, 2, 9])
            walls = [Wall([source.randint(-most, most) for _ in range(axes)], source.randint(-most, most), source.random() < 0.2)
                     for _ in range(source.choice([0, 1, 2, 3, 4, 6, 10]))]
            found = nearest(walls, axes)
            met[found.numbers is not None] += 1
            self.is_nearest(walls, axes, found)
        self.assertGreater(min(met.values()), 500)

    def test_walls_around_a_point(self):
        source = random.Random(21)
        for _ in range(800):
            axes = source.choice([2, 3])
            middle = [source.randint(-5, 5) for _ in range(axes)]
            walls = []
            for _ in range(24):
                normal = [source.randint(-3, 3) for _ in range(axes)]
                reach = sum(part * number for part, number in zip(normal, middle))
                walls.append(Wall(normal, reach - source.choice([0, 0, 1, 5]), source.random() < 0.05))
                walls[-1].least = reach if walls[-1].is_tight else walls[-1].least
            found = nearest(walls, axes)
            self.assertIsNotNone(found.numbers)
            self.is_nearest(walls, axes, found)

    def test_no_walls(self):
        for axes in (1, 2, 3):
            found = nearest([], axes)
            self.assertEqual((found.numbers, found.bottom, found.weights), ([0] * axes, 1, []))

    def test_many_unknown_numbers(self):
        """Stories ask for up to 12 unknown numbers, with long ones in the walls."""
        source = random.Random(22)
        met = {True: 0, False: 0}
        for size in (4, 6, 9, 12) * 12:
            walls = [Wall([source.choice([0, 1, source.randint(-10 ** 20, 10 ** 20)]) for _ in range(size)], source.choice([0, 1]), source.random() < 0.3)
                     for _ in range(source.choice([3, 6, 12]))]
            walls += [Wall([-part for part in walls[0].normal], 1, False)] if source.random() < 0.5 else []
            found = nearest(walls, size)
            met[found.numbers is not None] += 1
            self.is_nearest(walls, size, found)
        self.assertGreater(min(met.values()), 5)
