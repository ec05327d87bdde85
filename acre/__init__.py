"""Acre: land in the plane, told exactly."""
