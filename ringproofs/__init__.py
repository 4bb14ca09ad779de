"""Ringproofs: charts whose leaves may go back to an earlier line."""
