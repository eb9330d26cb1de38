"""The examples of the document, as they stand there."""

import doctest
import pathlib
import unittest

FOLDER = pathlib.Path(__file__).parent / "examples"
MANY = {
    "section_4.txt": 10, "section_5.txt": 8, "section_6.txt": 10, "section_7.txt": 10, "section_8.txt": 11,
    "section_9.txt": 7, "section_10.txt": 16, "section_11.txt": 10, "section_12.txt": 12, "section_13.txt": 20,
    "section_14.txt": 10, "section_15.txt": 10, "section_16.txt": 12, "section_17.txt": 12, "section_18.txt": 9,
}


class Examples(unittest.TestCase):

    def test_each_example_tells_what_the_document_tells(self):
        self.assertEqual(sorted(path.name for path in FOLDER.iterdir()), sorted(MANY))
        for name, many in MANY.items():
            with self.subTest(name):
                told = doctest.testfile(str(FOLDER / name), module_relative=False)
                self.assertEqual((told.failed, told.attempted), (0, many))
