"""Closechains: chains of fractions that close from every start, or never."""
