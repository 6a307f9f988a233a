"""Stampsheet: sheets of stamps, and the pieces that are torn out of them."""
