"""The interface of formalconcepts/errors.py."""

import unittest

from formalconcepts.errors import AnswerFault, ConceptFault, TextFault, ThingFault


class Errors(unittest.TestCase):
    def test_the_base_stands_below_value_error(self):
        self.assertIn(ValueError, ConceptFault.__mro__)
        self.assertIsNot(ConceptFault, ValueError)

    def test_the_others_stand_below_the_base_and_below_none_of_each_other(self):
        others = (TextFault, AnswerFault, ThingFault)
        for fault in others:
            self.assertTrue(issubclass(fault, ConceptFault))
            self.assertEqual([fault], [other for other in others if issubclass(fault, other)])

    def test_a_text_fault_has_a_line_and_a_reason(self):
        fault = TextFault(3, "wrong length")
        self.assertEqual((fault.line, fault.reason), (3, "wrong length"))

    def test_an_answer_fault_has_a_reason(self):
        self.assertEqual(AnswerFault("no question").reason, "no question")

    def test_a_thing_fault_has_a_reason(self):
        self.assertEqual(ThingFault("no such thing").reason, "no such thing")

    def test_each_is_caught_as_the_base_and_as_a_value_error(self):
        for fault in (TextFault(1, "unended"), AnswerFault("no question"), ThingFault("no such thing")):
            for kind in (ConceptFault, ValueError):
                with self.assertRaises(kind):
                    raise fault

    def test_the_text_of_an_error_is_a_text(self):
        for fault in (TextFault(1, "unended"), AnswerFault("no question"), ThingFault("no such thing")):
            self.assertIn(fault.reason, str(fault))


if __name__ == "__main__":
    unittest.main()
