"""Rideturns: drives shared by turns."""
