"""Healed webs: places come and die, and those who are left tie anew."""
