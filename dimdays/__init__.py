"""Dimdays: what busy blocks tell about the meetings behind them."""
