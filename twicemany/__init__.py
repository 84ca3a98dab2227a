"""Twicemany: transactions of several cells without a log."""
