"""What is to be done next while a line is read.

An order is a tuple (what, level, thing, beside). READ and GIVE are steps: a thing to be read in the
room beside it, a value to be given the list beside it. PLAIN and HAND are the same without the
tables. VALUE hands a value to what waits for it. FAULT ends a line of which nothing heeds the fault.
"""

READ = "read"
GIVE = "give"
PLAIN = "plain"
HAND = "hand"
VALUE = "value"
FAULT = "fault"


def told(value):
    # A value has no level and nothing beside it, but all orders are as long.
    return (VALUE, 0, value, ())
