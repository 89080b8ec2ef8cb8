"""Point 17, for frames: what a call keeps while it goes on."""

import unittest

from meterhouse.frames import Frame


class Frames(unittest.TestCase):
    def frame(self):
        return Frame("call", 1, 2, 3, 4, 5, 60)

    def test_a_new_frame(self):
        frame = self.frame()
        self.assertEqual((frame.kind, frame.who, frame.whose, frame.caller), ("call", 1, 2, 3))
        self.assertEqual((frame.coin, frame.word, frame.given, frame.used), (4, 5, 60, 0))
        self.assertEqual((frame.stack, frame.row, frame.steps, frame.end, frame.answer), ([], 0, [], None, 0))
        self.assertEqual((frame.depth, frame.looking), (1, False))

    def test_what_is_left(self):
        frame = self.frame()
        self.assertEqual(frame.left(), 60)
        frame.used += 45
        self.assertEqual(frame.left(), 15)

    def test_numbers_are_taken_with_the_deepest_first(self):
        frame = self.frame()
        for number in (7, 8, 9, 10):
            frame.lay(number)
        self.assertEqual(frame.taken(0), [])
        self.assertEqual(frame.taken(1), [10])
        self.assertEqual(frame.taken(2), [8, 9])
        self.assertEqual(frame.stack, [7])

    def test_short(self):
        frame = self.frame()
        self.assertEqual([frame.short_for(row) for row in (("me",), ("drop",), ("add",))], [False, True, True])
        frame.lay(1)
        self.assertEqual([frame.short_for(row) for row in (("me",), ("drop",), ("add",))], [False, False, True])
        self.assertEqual([frame.short_for(("copy", k)) for k in (0, 1)], [False, True])

    def test_full_behind_twenty_four(self):
        frame = self.frame()
        for number in range(23):
            frame.lay(number)
        self.assertFalse(frame.full_behind(("me",)))
        frame.lay(23)
        self.assertTrue(frame.full_behind(("me",)))
        self.assertTrue(frame.full_behind(("copy", 15)))
        for row in (("swap", 15), ("add",), ("load",), ("drop",), ("jump", 0), ("call",)):
            self.assertFalse(frame.full_behind(row))

    def test_the_tree_of_an_ended_frame(self):
        frame = self.frame()
        frame.used = 6
        frame.steps.append(0)
        frame.finish("fail", 9)
        tree = frame.tree()
        self.assertEqual(tree, ("call", 1, 2, 3, 4, 5, 60, "fail", 9, 6, [0]))
        frame.steps.append(1)
        tree[10].append(2)
        self.assertEqual((tree[10], frame.steps), ([0, 2], [0, 1]))


if __name__ == "__main__":
    unittest.main()
