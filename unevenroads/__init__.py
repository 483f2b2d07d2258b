"""Unevenroads: loads on roads that may be changed only between places of unlike sums."""
