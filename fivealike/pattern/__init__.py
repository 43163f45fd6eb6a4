"""What recipes tell apart."""
