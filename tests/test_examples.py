import unittest


class Examples(unittest.TestCase):
    """Both examples of the document, word for word."""

    def test_wires(self):
        from wireranks.messages import Message
        from wireranks.wires import Wire, fits, played
        a, b = Message("a", 5, 2, 1, 9), Message("b", 8, 3, 0, 9)
        calls = [("b", 0, 0), ("a", 0, 1), ("a", 5, 5), ("b", 8, 8)]
        wire = Wire([a, b])
        told = [fits([a, b], calls), fits([a, b], [("a", 0, 2)]), fits([a, b], [("a", 0, 0), ("a", 4, 4)]), played([a, b], calls, None), played([a, b], calls, (4, 3)), wire.call("b", 0), wire.wait(1), wire.call("a", 0), wire.under_way, wire.waiting, wire.stop(2), wire.wait(6), wire.now, wire.under_way]
        self.assertEqual(repr(told), "[True, False, False, [('b', 0, 0, 3), ('a', 0, 3, 5), ('a', 5, 5, 7), ('b', 8, 8, 11)], [('b', 0, 0, 3), ('a', 0, 3, 5), ('a', 5, 8, 10), ('b', 8, 10, 13)], None, [('b', 0, 0, 3)], None, ('b', 0, 0, 3), [('a', 0, 1)], None, [('a', 0, 5, 7)], 7, None]")

    def test_rankings(self):
        from wireranks.delays import greatest, keeps
        from wireranks.messages import Message
        from wireranks.rankings import bars, bears, closest, counted, dropped, longest, places, ranked, soonest, way
        a, b, c = Message("a", 5, 2, 0, 5), Message("b", 7, 2, 0, 7), Message("c", 7, 2, 0, 7)
        x, y = Message("x", 3, 2, 0, 2), Message("y", 9, 2, 0, 9)
        p, q = Message("p", 2, 1, 0, 9), Message("q", 2, 1, 0, 9)
        told = [greatest([a, b, c], "c", 0), greatest([p, q], "q", 3), greatest([p, q, x], "x", 0), keeps([b, c, a], 0), ranked([c, b], 1)[0], ranked([y, x], 0) == ("lot", [x], [y]), soonest([x, y], "x", 0), longest([x, y], "y", 0), counted([a, b, c], 0), bars([x, y], ["x"], 0), len(dropped([x, y], 0)), places([a, b, c], "a", 0), closest([b, c, a], 0)[0], way([b, a, c], [c, a, b], 0) == [[b, a, c], [a, b, c], [a, c, b], [c, a, b]], bears([y])[0]]
        self.assertEqual(repr(told), "[7, 8, None, False, 'ranking', True, 3, 1, 4, True, 1, [0, 1], 1, True, 7]")


if __name__ == "__main__":
    unittest.main()
