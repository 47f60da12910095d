"""Watchedways: what can be worked out from the tables of some ways."""
