"""Nearlords: houses in which the greater climbs."""
