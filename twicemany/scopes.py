"""The names that a deal or a keep may use, and what they stand for ([41])."""

from twicemany.deals import indexes_of


class Scope:
    """The records, the params with their sorts, and the deals ahead with their params, all by name."""

    def __init__(self, schema, params, deals):
        self.records = indexes_of(schema)
        self.params = {name: sort for name, sort in params}
        self.deals = {name: wanted for name, wanted, _ in deals}

    def taken(self, name):
        """Whether a record, a param or a deal ahead has this name."""
        return name in self.records or name in self.params or name in self.deals

    def rec_named(self, name):
        """The REC of a name, or None."""
        if name in self.records:
            return ("rec", name)
        return ("arg", name) if self.params.get(name) == "rec" else None

    def number_named(self, name):
        """The number for which a name stands in a sum, or None."""
        if self.params.get(name) == "num":
            return ("arg", name)
        rec = self.rec_named(name)
        return None if rec is None else ("worth", rec)
