"""[18]: letters and answers that are lost, doubled and late, and a journal that falls meanwhile."""

import unittest

from helpers import NO_INTEGERS, RELATIONS, dice
from twicedated.errors import BadEntry
from twicedated.journals import Journal
from twicedated.letters import Post, Receiver

RECEIVERS = ["zoe", "ann", "bob"]


def journal_of(letters):
    """A journal with these letters, settled."""
    journal = Journal(RELATIONS, "")
    for receiver, names in letters:
        journal.write(("letter", receiver, names))
    journal.settle()
    return journal


class PostTest(unittest.TestCase):
    def test_nothing_heard(self):
        journal = journal_of([("zoe", ("a",)), ("ann", ("b",)), ("zoe", ("c", "d"))])
        post = Post(journal)
        self.assertEqual(post.heard, {})
        right = [("ann", 1, ("b",)), ("zoe", 1, ("a",)), ("zoe", 2, ("c", "d"))]
        self.assertEqual(post.waiting(), right)
        self.assertEqual(post.waiting(), right)
        self.assertEqual(Post(journal_of([])).waiting(), [])

    def test_what_is_settled_by_then(self):
        journal = journal_of([("ann", ("a",))])
        post = Post(journal)
        journal.write(("letter", "ann", ("b",)))
        self.assertEqual(post.waiting(), [("ann", 1, ("a",))])
        with self.assertRaises(BadEntry):
            post.hear("ann", 2)
        journal.settle()
        self.assertEqual(post.waiting(), [("ann", 1, ("a",)), ("ann", 2, ("b",))])
        post.hear("ann", 2)
        self.assertEqual(post.waiting(), [])

    def test_heard(self):
        post = Post(journal_of([("ann", ("a",)), ("ann", ("b",)), ("ann", ("c",)), ("bob", ("d",))]))
        for number, heard, left in ((0, 0, 3), (1, 1, 2), (1, 1, 2), (0, 1, 2), (3, 3, 0), (2, 3, 0), (0, 3, 0), (3, 3, 0)):
            self.assertIsNone(post.hear("ann", number))
            self.assertEqual(post.heard.get("ann", 0), heard)
            self.assertEqual(post.heard.get("bob", 0), 0)
            self.assertEqual([number for who, number, _ in post.waiting() if who == "ann"], list(range(4 - left, 4)))
            self.assertIn(("bob", 1, ("d",)), post.waiting())

    def test_wrong_numbers(self):
        post = Post(journal_of([("ann", ("a",)), ("ann", ("b",)), ("bob", ("c",))]))
        for receiver, many in (("ann", 2), ("bob", 1), ("zoe", 0)):
            for number in [*NO_INTEGERS, -1, many + 1, 10 ** 20]:
                with self.assertRaises(BadEntry) as caught:
                    post.hear(receiver, number)
                self.assertEqual(caught.exception.entry[0], receiver)
                self.assertIs(caught.exception.entry[1], number)
            post.hear(receiver, 0)
            self.assertEqual(post.heard.get(receiver, 0), 0)
        self.assertEqual(len(post.waiting()), 3)


class ReceiverTest(unittest.TestCase):
    def test_each_once_in_order(self):
        receiver = Receiver()
        self.assertEqual(receiver.taken, [])
        for number, many in ((2, 0), (4, 0), (2, 0), (1, 2), (1, 2), (2, 2), (3, 4), (4, 4), (5, 5), (1, 5)):
            self.assertEqual(receiver.get(number, (f"n{number}",)), many)
            self.assertEqual(receiver.taken, [(f"n{k}",) for k in range(1, many + 1)])

    def test_two_receivers(self):
        one, other = Receiver(), Receiver()
        one.get(1, ("a",))
        self.assertEqual((one.taken, other.taken), ([("a",)], []))


class WaysTest(unittest.TestCase):
    """Letters and answers on ways where they are lost, doubled, and come in any order; and falls amid writing."""

    def round(self, chance, post, receivers, ways, is_good):
        for receiver, number, names in post.waiting():
            for _ in range(1 if is_good else chance.choice([0, 1, 1, 2])):
                ways.append(("letter", receiver, number, names))
        while ways and (is_good or chance.random() < 0.8):
            word, receiver, number, names = ways.pop(chance.randrange(len(ways)))
            if word == "letter":
                many = receivers[receiver].get(number, names)
                for _ in range(1 if is_good else chance.choice([0, 1, 2])):
                    ways.append(("answer", receiver, many, None))
            else:
                post.hear(receiver, number)

    def look_at(self, journal, receivers, is_whole):
        letters = journal.letters()
        for who in RECEIVERS:
            settled = list(letters.get(who, ()))
            self.assertEqual(receivers[who].taken, settled[:len(receivers[who].taken)])
            self.assertTrue(not is_whole or receivers[who].taken == settled)

    def test_whatever_happens(self):
        for number in range(60):
            chance = dice(number)
            journal = Journal(RELATIONS, "")
            post, receivers, ways = Post(journal), {who: Receiver() for who in RECEIVERS}, []
            for _ in range(25):
                deed = chance.choice(["write", "write", "write", "settle", "round", "round", "fall", "good"])
                if deed == "write":
                    journal.write(("letter", chance.choice(RECEIVERS), (f"n{chance.randrange(9)}",)))
                elif deed == "settle":
                    journal.settle()
                elif deed == "fall":
                    # Whoever sends letters knows nothing any more, but what the journal has.
                    journal = Journal(RELATIONS, journal.fallen(chance.randrange(len(journal.loose) + 1)))
                    post = Post(journal)
                else:
                    self.round(chance, post, receivers, ways, deed == "good")
                    self.look_at(journal, receivers, False)
                if deed == "good":
                    self.look_at(journal, receivers, True)
                    self.assertEqual(post.waiting(), [])
                self.look_at(journal, receivers, False)


if __name__ == "__main__":
    unittest.main()
