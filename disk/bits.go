package disk

// turnBits turns the bits of b from the at-th on where turn has a 1; what of turn lies beyond b is left out. at isn't below 0.
func turnBits(b []byte, at int, turn uint32) {
	// 32 bits lie in five bytes at most. The bytes are counted, not the bits: those of a long tail need not fit an int.
	first, wide := at/8, uint64(turn)<<(8-at%8)
	for i := range 5 {
		if first+i < len(b) {
			b[first+i] ^= byte(wide >> (32 - 8*i))
		}
	}
}
