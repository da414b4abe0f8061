"""Evenmarket: a market whose books say what can still change."""
