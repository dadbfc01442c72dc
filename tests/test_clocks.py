"""Point 25, whosefirst/clocks.py and whosefirst/beats.py."""

import random
from fractions import Fraction
from itertools import product

from helpers import Case, no_lists, no_ratios, no_values
from own import exact
from whosefirst.beats import beats_left, beats_right, echo_beats, middle_beats
from whosefirst.clocks import Tour, age_of_news, spot_at, straight_square
from whosefirst.errors import BadNumber, BadStep, BadTour, TooMany, Unlike
from whosefirst.paces import Pace
from whosefirst.ratios import Ratio
from whosefirst.steps import Step, product_of

HALF = Ratio(1, 2)
TOUR = Tour([(2, 1), (HALF, 1)])


def random_parts(source, many):
    return [(Ratio(source.randint(1, 9), source.randint(1, 9)), Ratio(source.randint(1, 12), source.randint(1, 5))) for _ in range(many)]


def some_tours():
    source = random.Random(190)
    return [TOUR, Tour([(1, 5)]), Tour([(3, 2), (3, 1)])] + [Tour(random_parts(source, many)) for many in (1, 2, 3, 5, 12) for _ in range(4)]


def own_lights(tour, age):
    """u and w at an age, by sums of beats."""
    u = w = Fraction(0)
    left = exact(age)
    for ratio, beats in tour.parts:
        spent = min(left, exact(beats))
        u, w, left = u + spent / exact(ratio), w + spent * exact(ratio), left - spent
    return u, w


def lights_of(step):
    return exact(step.time) - exact(step.place[0]), exact(step.time) + exact(step.place[0])


class Tours(Case):

    def test_attributes(self):
        tour = Tour(parts=[[2, 1], (HALF, Ratio(3))])
        self.assertEqual((tour.parts, tour.age), (((2, 1), (HALF, 3)), 4))
        self.assertEqual([type(tour.parts), type(tour.parts[0]), type(tour.spots)], [tuple] * 3)
        for part in tour.parts:
            self.are_all_ratios(part)
        self.are_all_ratios((tour.age, straight_square(tour)))
        parts = [[2, 1]]
        copied = Tour(parts)
        parts[0][0] = 3
        parts.append((1, 1))
        self.assertEqual(copied, Tour([(2, 1)]))
        self.assertTrue(TOUR == Tour(((2, Ratio(1)), [Ratio(2, 4), 1])))
        self.differs(TOUR, [Tour([(2, 1)]), Tour([(HALF, 1), (2, 1)]), Tour([(2, 2), (HALF, 1)]), TOUR.parts, str(TOUR), *no_values()])

    def test_ages_spots_and_straight_squares(self):
        for tour in some_tours():
            self.assertEqual(exact(tour.age), sum(exact(beats) for _, beats in tour.parts))
            self.assertEqual(len(tour.spots), len(tour.parts) + 1)
            age = Fraction(0)
            for at, spot in enumerate(tour.spots):
                self.assertIs(type(spot), Step)
                self.assertEqual(lights_of(spot), own_lights(tour, age))
                age += exact(tour.parts[at][1]) if at < len(tour.parts) else 0
            self.assertEqual((tour.spots[0], tour.step), (Step(0, [0]), tour.spots[-1]))
            u, w = lights_of(tour.step)
            self.assertEqual(exact(straight_square(tour)), u * w)
            due = sum(exact(b) * exact(c) * (exact(k) - exact(m)) ** 2 / (exact(k) * exact(m)) for at, (k, b) in enumerate(tour.parts) for m, c in tour.parts[:at])
            self.assertEqual(exact(straight_square(tour)) - exact(tour.age) ** 2, due)
            self.assertEqual(straight_square(tour) == tour.age * tour.age, all(ratio == tour.parts[0][0] for ratio, _ in tour.parts))

    def test_each_part_goes_with_the_pace_of_its_ratio(self):
        for tour in some_tours():
            for (ratio, beats), one, other in zip(tour.parts, tour.spots, tour.spots[1:]):
                way = other - one
                self.assertEqual(way.place[0], Pace.of_beats(ratio, 1, 0).parts[0] * way.time)
                self.assertEqual(way.square, beats * beats)

    def test_wrong_parts(self):
        self.refuses_each(BadTour("parts"), Tour, [*no_lists(), [], ()])
        for value in [*no_values(), [1], [1, 2, 3], "12", {1: 2, 3: 4}]:
            self.refuses(BadTour("parts"), Tour, [(1, 1), value])
        for value in [*no_ratios(), 0, -1, Ratio(-1, 2), Ratio(0)]:
            self.refuses(BadTour("parts"), Tour, [(1, 1), (value, 1)])
            self.refuses(BadTour("parts"), Tour, [(1, 1), (1, value)])
        self.refuses(BadTour("parts"), Tour, [(1, 1)] * 12 + [(1, 0)])

    def test_1_12_and_13_parts(self):
        self.assertEqual([len(Tour([(2, 1)] * many).parts) for many in (1, 12)], [1, 12])
        self.refuses(TooMany("parts", 12), Tour, [(2, 1)] * 13)

    def test_joined(self):
        for one, other in product(some_tours()[:8], repeat=2):
            joined = one.joined(other=other)
            self.assertEqual(joined, Tour([*one.parts, *other.parts]))
            self.assertEqual((joined.age, joined.step), (one.age + other.age, one.step + other.step))
        six = Tour([(2, 1)] * 6)
        self.assertEqual(len(six.joined(six).parts), 12)
        self.refuses(TooMany("parts", 12), six.joined, Tour([(2, 1)] * 7))
        self.refuses_each(BadTour("other"), six.joined, [*no_values(), six.parts])
        self.assertEqual(len(six.parts), 6)

    def test_texts(self):
        self.reads(Tour, ["2 1", "2 1 , 1/2 1", " , ".join(["7/3 5"] * 12), f"1/{'9' * 60} {'9' * 60}"])
        for tour in some_tours():
            self.assertEqual(Tour.read(str(tour)), tour)
        self.reads_not(Tour, {"": 0, "2": 1, "2 ": 1, "2 1 ,": 3, "2 1 , ": 3, "2 1 , 1/2": 4, "2 1 1/2 1": 2, "2 1 1/2": 2, "2 1 / 3 1": 2, "0 1": 0, "-1 1": 0, "1 0": 1, "1 -1/2": 1,
                              "2 1 , 3 0": 4, "2/4 1": 0, "2 1,": 1, " 2 1": 0, "2  1": 1, "a 1": 0, "2 1 , , 3 1": 3, ", 2 1": 0, " , ".join(["2 1"] * 13): 35, " , ".join(["2 1"] * 12) + " 3": 35,
                              " , ".join(["2 1"] * 12) + " ,": 35, f"{'1' * 61} 1": 0, f"1 1/{'1' * 61}": 1})
        self.reads_no_values(Tour)

    def test_spots_at_ages(self):
        source = random.Random(191)
        for tour in some_tours():
            ages = [Ratio(0), tour.age, *[tour.age * Ratio(source.randint(0, 60), 60) for _ in range(8)]]
            ages += [age for age in self.ages_of_parts(tour)]
            for age in ages:
                spot = spot_at(tour, age)
                self.assertIs(type(spot), Step)
                self.assertEqual(lights_of(spot), own_lights(tour, age))
            self.assertEqual([spot_at(tour, age) for age in self.ages_of_parts(tour)], list(tour.spots))
        self.assertEqual(str(spot_at(age=Ratio(3, 2), tour=TOUR)), "15/8 3/8")
        self.assertEqual([str(spot_at(TOUR, age)) for age in (0, 1, 2)], ["0 0", "5/4 3/4", "5/2 0"])

    def ages_of_parts(self, tour):
        ages = [Ratio(0)]
        for _, beats in tour.parts:
            ages.append(ages[-1] + beats)
        return ages

    def test_wrong_ages(self):
        self.refuses_each(BadTour("tour"), lambda value: spot_at(value, None), no_values())
        self.refuses_each(BadNumber("age"), lambda value: spot_at(TOUR, value), [*no_ratios(), -1, 3, Ratio(-1, 10 ** 30), Ratio(2) + Ratio(1, 10 ** 30)])
        self.refuses_each(BadTour("tour"), straight_square, no_values())

    def test_ages_of_news(self):
        source = random.Random(192)
        late = 0
        for tour in some_tours():
            steps = [Step(Ratio(source.randint(-9, 20), 3), [Ratio(source.randint(-12, 12), 3)]) for _ in range(15)]
            steps += [*tour.spots, *[spot - Step(1, [side]) * Ratio(1, 3) for spot in tour.spots for side in (1, -1)], *[spot + Step(1, [1]) for spot in tour.spots]]
            for step in steps:
                age = age_of_news(tour, step)
                u, w = lights_of(step)
                end = own_lights(tour, tour.age)
                self.assertEqual(age is None, end[0] < u or end[1] < w)
                if age is not None:
                    self.assertIs(type(age), Ratio)
                    here = own_lights(tour, age)
                    self.assertTrue(here[0] >= u and here[1] >= w)
                    if age.sign:
                        late += 1
                        before = own_lights(tour, age - Ratio(1, 10 ** 20))
                        self.assertTrue(before[0] < u or before[1] < w)
                        self.assertIn(0, (here[0] - u, here[1] - w))
                    else:
                        self.assertTrue(u <= 0 and w <= 0)
        self.assertGreater(late, 100)

    def test_news_by_hand(self):
        self.assertEqual([age_of_news(TOUR, Step(0, [1])), age_of_news(TOUR, Step(2, [1])), age_of_news(step=Step(-1, [0]), tour=TOUR), age_of_news(TOUR, Step(0, [0]))], [HALF, None, 0, 0])
        # On the light of a spot the news comes with the spot; what is at the end comes at the end.
        self.assertEqual([age_of_news(TOUR, step) for step in (TOUR.spots[1], TOUR.step, TOUR.step - Step(1, [1]), TOUR.step + Step(1, [1]))], [1, 2, 2, None])
        self.assertEqual(age_of_news(TOUR, Step(-1, [-1])), 0)

    def test_wrong_news(self):
        self.refuses_each(BadTour("tour"), lambda value: age_of_news(value, None), no_values())
        self.refuses_each(BadStep("step"), lambda value: age_of_news(TOUR, value), [*no_values(), "0 1", (0, [1])])
        for axes in (2, 3):
            self.refuses(Unlike("axes"), age_of_news, TOUR, Step(0, [0] * axes))


class Beats(Case):

    def worldline(self, ratio, beats):
        """u and w of a traveller of a ratio, at so many beats behind the meeting."""
        return beats / ratio, beats * ratio

    def test_by_lights(self):
        """What is sent right stays on its u, what is sent left on its w; the other one's beat is where it meets this."""
        source = random.Random(193)
        for _ in range(60):
            k, other, beats = [Ratio(source.randint(1, 12), source.randint(1, 12)) for _ in range(3)]
            one, two, many = exact(k), exact(other), exact(beats)
            self.assertEqual(exact(beats_right(k, other, beats)), self.worldline(one, many)[0] * two)
            self.assertEqual(exact(beats_left(k, other, beats)), self.worldline(one, many)[1] / two)
            # Light to the right meets a faster one, light to the left a slower one; back it goes the other way.
            if two >= one:
                met = self.worldline(one, many)[0] * two
                back = self.worldline(two, met)[1] / one
            else:
                met = self.worldline(one, many)[1] / two
                back = self.worldline(two, met)[0] * one
            self.assertEqual(exact(echo_beats(k, other, beats)), back)
            self.assertEqual(exact(middle_beats(k, other, beats)), (many + back) / 2)
            meeting = self.worldline(two, met)
            middle = self.worldline(one, (many + back) / 2)
            self.assertEqual((meeting[0] - middle[0]) * one + (meeting[1] - middle[1]) / one, 0)
            self.are_all_ratios(tuple(call(k, other, beats) for call in (beats_right, beats_left, echo_beats, middle_beats)))

    def test_by_hand(self):
        self.assertEqual([beats_right(2, 3, 4), beats_left(2, 3, 4), echo_beats(2, 3, 4), echo_beats(3, 2, 4), middle_beats(2, 3, 4)], [6, Ratio(8, 3), 9, 9, Ratio(13, 2)])
        for call in (beats_right, beats_left, echo_beats, middle_beats):
            self.is_ratio(call(2, 3, 0), 0)
            self.is_ratio(call(beats=7, other=5, k=5), 7)
            self.assertEqual(call(other=3, k=2, beats=4), call(2, 3, 4))
        self.assertEqual(beats_right(2, 3, beats_left(3, 2, 1)), Ratio(9, 4))

    def test_there_and_back_they_multiply(self):
        for k, other in ((2, 3), (3, 2), (HALF, 5)):
            self.assertEqual(beats_right(other, k, beats_right(k, other, 7)), 7)
            self.assertEqual(beats_left(other, k, beats_right(k, other, 7)), Ratio(7) * Ratio.of(other).over(k) * Ratio.of(other).over(k))

    def test_wrong_values(self):
        for call in (beats_right, beats_left, echo_beats, middle_beats):
            self.refuses_each(BadNumber("k"), lambda value: call(value, None, None), [*no_ratios(), 0, -1, Ratio(-1, 2)])
            self.refuses_each(BadNumber("other"), lambda value: call(1, value, None), [*no_ratios(), 0, -1, Ratio(-1, 2)])
            self.refuses_each(BadNumber("beats"), lambda value: call(1, 1, value), [*no_ratios(), -1, Ratio(-1, 2)])


class Facts(Case):

    def test_the_longest_way_is_the_straight_one(self):
        for tour in some_tours():
            self.assertFalse(straight_square(tour).is_below(tour.age * tour.age))
            self.assertEqual(straight_square(tour), product_of(tour.step, tour.step))
