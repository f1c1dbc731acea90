"""Fairround: tables of fractions rounded so that their sums are rounded too."""
