"""Whatspeed: how long a program takes, for every speed of its parts."""
