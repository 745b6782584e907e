import unittest

from rocksamples.labels import label_of


class Labels(unittest.TestCase):
    def test_some(self):
        self.assertEqual(label_of(0), 98)
        self.assertEqual(label_of(1), 195)
        self.assertEqual(label_of(2), 292)
        self.assertEqual(label_of(97), 9798)
        self.assertEqual(label_of(32), 3202)
        self.assertEqual(label_of(1234), 123482)
        self.assertEqual(label_of(9999), 999974)

    def test_each_is_one_more_than_a_multiple_of_97_and_none_comes_twice(self):
        labels = [label_of(k) for k in range(10000)]
        for k, label in enumerate(labels):
            self.assertEqual(label // 100, k)
            self.assertEqual(label % 97, 1)
            self.assertTrue(2 <= label % 100 <= 98)
        self.assertEqual(len(set(labels)), 10000)


if __name__ == "__main__":
    unittest.main()
