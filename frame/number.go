package frame

// numberBytes is how many bytes tell a number; the highest comes first.
const numberBytes = 4

func putNumber(b []byte, n uint32) {
	for i := range numberBytes {
		b[i] = byte(n >> (8 * (numberBytes - 1 - i)))
	}
}

func number(b []byte) uint32 {
	n := uint32(0)
	for i := range numberBytes {
		n = n<<8 | uint32(b[i])
	}
	return n
}
