"""Ways over land that arise, lapse, and fall away for good."""
