"""Meterhouse: accounts with programs, priced rows, undone calls and papers."""
