"""Lagbound: machines that write words while they read words."""
