"""Evenrounds: tables laid out in seatings."""
