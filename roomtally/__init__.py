"""Tallies of a few questions each, and the one count behind them."""
