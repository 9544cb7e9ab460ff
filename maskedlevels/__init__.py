"""What programs with masked levels do under all arrivals of their lines."""
