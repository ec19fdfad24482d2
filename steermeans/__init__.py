"""Which fields the means can be led into, whatever the other one does: exactly, over whole numbers."""
