"""How the tests look at what is told."""

import copy
import unittest


class Asking(unittest.TestCase):

    def assert_whole(self, value):
        self.assertIs(type(value), int)

    def assert_wholes(self, value, kind):
        self.assertIs(type(value), kind)
        for number in value:
            self.assert_whole(number)

    def assert_text(self, value):
        self.assertIs(type(value), str)

    def assert_own(self, asked, *given):
        """A told list or dict is the asker's own, and what was given stays as it was."""
        kept = copy.deepcopy(given)
        told = asked(*given)
        once = copy.deepcopy(told)
        found = lists_in(told)
        self.assertEqual(len({id(part) for part in found}), len(found))
        for part in found:
            if isinstance(part, dict):
                part["more"] = 0
            else:
                part.append("more")
                part.reverse()
        self.assertEqual(asked(*given), once)
        for part in found:
            part.clear()
        self.assertEqual(asked(*given), once)
        self.assertEqual(given, kept)
        self.assertIsNot(asked(*given), told)

    def assert_refused(self, error, asked, *given):
        kept = copy.deepcopy(given) if all(is_plain(thing) for thing in given) else None
        with self.assertRaises(error) as caught:
            asked(*given)
        self.assertIs(type(caught.exception), error)
        if kept is not None:
            self.assertEqual(given, kept)
        return caught.exception


def lists_in(told):
    """All lists and dicts in what was told."""
    if isinstance(told, dict):
        return [told] + [inner for part in told.values() for inner in lists_in(part)]
    if isinstance(told, list):
        return [told] + [inner for part in told for inner in lists_in(part)]
    if isinstance(told, tuple):
        return [inner for part in told for inner in lists_in(part)]
    return []


def is_plain(thing):
    """Of what can be copied and held side by side, in all its parts."""
    if isinstance(thing, (tuple, list)):
        return all(is_plain(part) for part in thing)
    if isinstance(thing, dict):
        return all(is_plain(part) for part in thing.values())
    return thing is None or isinstance(thing, (int, str))
