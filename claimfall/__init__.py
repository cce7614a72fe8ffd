"""claimfall: programs whose claims are kept, and the row in which qualities fall."""
