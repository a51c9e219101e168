"""Oneistrue: awards on what two sides show."""
