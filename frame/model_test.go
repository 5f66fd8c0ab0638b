package frame_test

import (
	"bytes"
	"encoding/binary"
	"math/big"
)

// The model of another make: a sum is the rest of a division of polynomials, told as great numbers, and a frame is found by holding the frames of all payloads that could stand there against what stands there.

// divisor is x to the 32 and what the sum is turned by.
func divisor() *big.Int { return big.NewInt(0x104C11DB7) }

// modelSum divides the bits, 32 noughts behind them and the first 32 of all that turned: so are bits that are all 1 at first.
func modelSum(b []byte) uint32 {
	ones := big.NewInt(0xFFFFFFFF)
	rest := new(big.Int).Lsh(new(big.Int).SetBytes(b), 32)
	rest.Xor(rest, new(big.Int).Lsh(ones, uint(8*len(b))))
	for d := divisor(); rest.BitLen() >= d.BitLen(); {
		rest.Xor(rest, new(big.Int).Lsh(d, uint(rest.BitLen()-d.BitLen())))
	}
	return uint32(rest.Xor(rest, ones).Uint64())
}

// plainSum is the chapter's words, bit by bit, for bytes of any length.
func plainSum(b []byte) uint32 {
	sum := uint32(0xFFFFFFFF)
	for _, c := range b {
		for i := 7; i >= 0; i-- {
			unlike := sum>>31 != uint32(c)>>i&1
			sum <<= 1
			if unlike {
				sum ^= 0x04C11DB7
			}
		}
	}
	return sum ^ 0xFFFFFFFF
}

func told(n uint32) []byte { return binary.BigEndian.AppendUint32(nil, n) }

// framed is a frame, whatever the payload's length.
func framed(payload []byte) []byte {
	length := told(uint32(len(payload)))
	return bytes.Join([][]byte{length, told(plainSum(length)), payload, told(plainSum(payload))}, nil)
}

// modelScan goes by the words: a frame of SOME payload stands there.
func modelScan(b []byte) ([][]byte, int) {
	var payloads [][]byte
	place := 0
	for n := 0; place+12+n <= len(b); n++ {
		payload := b[place+8 : place+8+n]
		if !bytes.Equal(framed(payload), b[place:place+12+n]) {
			continue
		}
		payloads = append(payloads, bytes.Clone(payload))
		place, n = place+12+n, -1
	}
	return payloads, place
}
