"""Touchall: places that touch all ties of a web, cheapest, with papers that show it."""
