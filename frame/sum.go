package frame

// turns are the bits by which a sum is turned.
const turns = 0x04C11DB7

// table tells for each value of a byte how a sum is turned when that byte has gone through it: the eight steps of its bits at once.
type table [256]uint32

// newTable makes the table by the rule of single bits, from which it follows: a table written out would be none that can be seen to be right.
func newTable() table {
	var t table
	for i := range t {
		bits := uint32(i) << 24
		for range 8 {
			bits = step(bits)
		}
		t[i] = bits
	}
	return t
}

// step moves the bits up by one place, turned if the highest was 1.
func step(bits uint32) uint32 {
	if bits>>31 == 1 {
		return bits<<1 ^ turns
	}
	return bits << 1
}

func (t *table) sum(b []byte) uint32 {
	bits := ^uint32(0)
	for _, c := range b {
		bits = bits<<8 ^ t[byte(bits>>24)^c]
	}
	return ^bits
}
