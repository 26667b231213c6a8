"""Whatpasses: what a passing test suite says about an unknown part."""
