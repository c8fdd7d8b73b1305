import unittest
from fractions import Fraction

from recut.moves import behind, led, way_back

BIG = 10 ** 60 + 7
STAY = (1, (0, 1), (0, 1))
SHIFTS = [STAY, (1, (1, 2), (-2, 3)), (1, (-5, 1), (7, 6)), (1, (BIG, 3), (1, BIG))]
TURNS = [(-1, (0, 1), (0, 1)), (-1, (1, 3), (1, 2)), (-1, (-7, 2), (4, 1)), (-1, (-BIG, 2), (BIG, 5))]
MOVES = SHIFTS + TURNS
SPOTS = [((0, 1), (0, 1)), ((1, 2), (1, 3)), ((-3, 1), (5, 6)), ((4, 1), (-1, 6)), ((BIG, 7), (-1, BIG))]


def told(value):
    return (value.numerator, value.denominator)


def led_by_hand(move, spot):
    sign, dx, dy = move
    return (told(sign * Fraction(*spot[0]) + Fraction(*dx)), told(sign * Fraction(*spot[1]) + Fraction(*dy)))


class MovesTest(unittest.TestCase):
    def check_move(self, move):
        self.assertIs(type(move), tuple)
        self.assertEqual(len(move), 3)
        self.assertIs(type(move[0]), int)
        self.assertIn(move[0], (1, -1))
        for part in move[1:]:
            self.assertEqual(part, told(Fraction(*part)))

    def test_written_spots(self):
        spot = ((1, 2), (1, 3))
        self.assertEqual(led(STAY, spot), spot)
        self.assertEqual(led((1, (1, 2), (-1, 3)), spot), ((1, 1), (0, 1)))
        self.assertEqual(led((-1, (0, 1), (0, 1)), spot), ((-1, 2), (-1, 3)))
        self.assertEqual(led((-1, (1, 1), (1, 6)), spot), ((1, 2), (-1, 6)))

    def test_shifts_and_half_turns(self):
        for move in MOVES:
            for spot in SPOTS:
                self.assertEqual(led(move, spot), led_by_hand(move, spot))

    def test_written_moves_behind(self):
        shift = (1, (1, 2), (2, 3))
        turn = (-1, (5, 1), (1, 3))
        self.assertEqual(behind(shift, shift), (1, (1, 1), (4, 3)))
        self.assertEqual(behind(shift, turn), (-1, (9, 2), (-1, 3)))
        self.assertEqual(behind(turn, shift), (-1, (11, 2), (1, 1)))
        self.assertEqual(behind(turn, turn), STAY)
        self.assertEqual(behind(turn, (-1, (0, 1), (1, 1))), (1, (-5, 1), (2, 3)))
        self.assertEqual(behind((-1, (0, 1), (1, 1)), turn), (1, (5, 1), (-2, 3)))

    def test_behind_leads_as_one_after_the_other(self):
        for first in MOVES:
            for second in MOVES:
                both = behind(first, second)
                self.check_move(both)
                for spot in SPOTS:
                    self.assertEqual(led(both, spot), led_by_hand(second, led_by_hand(first, spot)))

    def test_written_ways_back(self):
        self.assertEqual(way_back((1, (1, 2), (-2, 3))), (1, (-1, 2), (2, 3)))
        self.assertEqual(way_back((-1, (1, 2), (-2, 3))), (-1, (1, 2), (-2, 3)))
        self.assertEqual(way_back(STAY), STAY)

    def test_way_back_behind_the_move_and_ahead_of_it(self):
        for move in MOVES:
            back = way_back(move)
            self.check_move(back)
            self.assertEqual(behind(move, back), STAY)
            self.assertEqual(behind(back, move), STAY)
            for spot in SPOTS:
                self.assertEqual(led(back, led_by_hand(move, spot)), spot)
                self.assertEqual(led_by_hand(move, led(back, spot)), spot)


if __name__ == "__main__":
    unittest.main()
