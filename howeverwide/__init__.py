"""Claims about machine words, decided at every width at once."""
