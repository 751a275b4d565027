"""Point 9: names and rows of ten names; point 1: True and False are no integers, lists no tuples."""

from passednames.errors import BadGiven, BadName
from passednames.names import AS_IS, need_given, need_name
from tests.samples import Case, Odd, values_of_every_kind


class Names(Case):

    def test_as_is(self):
        self.assert_same(AS_IS, (0, 1, 2, 3, 4, 5, 6, 7, 8, 9))

    def test_names_are_returned(self):
        for name in range(10):
            self.assert_same(need_name(name), name)

    def test_anything_else_is_no_name(self):
        for value in values_of_every_kind() + [(), (3,), "3", 3.0, -2, 11]:
            self.refused(BadName, {"value": value}, need_name, value)

    def test_rows_are_returned(self):
        for row in (AS_IS, (0,) * 10, (9,) * 10, (9, 8, 7, 6, 5, 4, 3, 2, 1, 0), (3, 3, 1, 0, 9, 9, 2, 5, 5, 5)):
            self.assert_same(need_given(row), row)

    def test_anything_else_is_no_row(self):
        wrong = values_of_every_kind() + [
            3, (), AS_IS[:9], AS_IS + (0,), list(AS_IS), "0123456789", b"0123456789", range(10), {3: 4},
            (True,) + AS_IS[1:], AS_IS[:9] + (False,), AS_IS[:9] + (10,), (-1,) + AS_IS[1:], AS_IS[:9] + (9.0,),
            AS_IS[:9] + (None,), AS_IS[:9] + ((9,),), AS_IS[:9] + (Odd(),), AS_IS[:4] + ("4",) + AS_IS[5:],
        ]
        for value in wrong:
            self.refused(BadGiven, {"value": value}, need_given, value)

    def test_by_name(self):
        self.assertEqual(need_name(value=3), 3)
        self.assertEqual(need_given(value=AS_IS), AS_IS)
