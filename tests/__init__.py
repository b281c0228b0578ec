"""Tests of healedwebs."""
