"""Where a house has what lies in its bank: the marks of a deal that is being done, and the records ([38])."""

# The cell of each row of a schema that is its MARK.
MARK = 0
# The row of the rack without records, its cells PLACE and DEAL, and the first one of ARGS.
HEAD = 0
PLACE = 0
DEAL = 1
ARGS = 2


def rack_rows(schema):
    """The rows of the rack that have rows of the schema."""
    return list(range(1, len(schema) + 1))


def spots(schema):
    """For each record, by index, the row of the rack and the cell in which it lies."""
    return [(i + 1, place + 1) for i, row in enumerate(schema) for place in range(len(row))]


def records_of(schema):
    """The name and the size of each record, by index."""
    return [record for row in schema for record in row]


def indexes_of(schema):
    """The index of each record, by name."""
    return {name: index for index, (name, _) in enumerate(records_of(schema))}
