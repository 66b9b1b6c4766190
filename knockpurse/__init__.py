"""Knockpurse: runners that knock at houses that may keep silent."""
