"""Money orders of offices that lose power, over lines that lose and double."""
