"""Coverways: routes gathered to fewer, for all addresses and all withdrawals."""
