package frame_test

import (
	"bytes"
	"math/bits"
	"math/rand"
	"sync"
	"testing"

	"voyage/api"
	"voyage/frame"
)

func random(r *rand.Rand, n int) []byte {
	b := make([]byte, n)
	r.Read(b)
	return b
}

// frames are payloads, their frames one behind the other, and where each of these begins; the last place is the end.
type frames struct {
	payloads [][]byte
	bytes    []byte
	places   []int
}

func framesOf(payloads ...[]byte) frames {
	f := frames{payloads: payloads, places: []int{0}}
	for _, p := range payloads {
		b, _ := frame.Wrap(p)
		f.bytes = append(f.bytes, b...)
		f.places = append(f.places, len(f.bytes))
	}
	return f
}

func randomFrames(r *rand.Rand, most, longest int) frames {
	var payloads [][]byte
	for range r.Intn(most + 1) {
		payloads = append(payloads, random(r, r.Intn(longest+1)))
	}
	return framesOf(payloads...)
}

// ahead tells how many frames end at or ahead of a place.
func (f frames) ahead(place int) int {
	n := 0
	for n < len(f.payloads) && f.places[n+1] <= place {
		n++
	}
	return n
}

func (f frames) check(t *testing.T, what string, b []byte, whole int) {
	t.Helper()
	checkScan(t, what, b, f.payloads[:whole], f.places[whole])
}

// few are frames of the kinds whose bits are turned: empty, short, longer than 32 bits, noughts and ones.
func few() frames {
	return framesOf(nil, []byte("a"), nil, []byte("voyage!"), make([]byte, 9), bytes.Repeat([]byte{0xFF}, 5))
}

// TestSumAgainstTheModel holds P11.1: all bytes, all pairs of bytes, and others.
func TestSumAgainstTheModel(t *testing.T) {
	r := rand.New(rand.NewSource(1))
	check := func(b []byte) {
		t.Helper()
		if got := frame.Sum(b); got != plainSum(b) || len(b) < 200 && got != modelSum(b) {
			t.Fatalf("Sum(%s) of %d bytes: %08X", short(b), len(b), got)
		}
	}
	for i := range 1 << 16 {
		check([]byte{byte(i)})
		check([]byte{byte(i >> 8), byte(i)})
	}
	for n := range 300 {
		for range 20 {
			check(random(r, n))
		}
		check(make([]byte, n))
		check(bytes.Repeat([]byte{0xFF}, n))
	}
	for _, n := range []int{1000, 4096, 65537, api.MaxRecord, api.MaxRecord + 1} { // sums have no limit
		check(random(r, n))
	}
}

// TestSumOfThree holds P11.6; of two it does not hold, but where the third is noughts.
func TestSumOfThree(t *testing.T) {
	r := rand.New(rand.NewSource(2))
	for n := range 400 {
		for range 10 {
			a, b, c, all := random(r, n), random(r, n), random(r, n), make([]byte, n)
			for i := range all {
				all[i] = a[i] ^ b[i] ^ c[i]
			}
			if got := frame.Sum(all); got != frame.Sum(a)^frame.Sum(b)^frame.Sum(c) {
				t.Fatalf("Sum(%s): %08X is not that of the three", short(all), got)
			}
		}
	}
}

// TestSumTellsBits holds what P11.5 stands on: bytes of one length that are unlike within 32 bits have other sums.
func TestSumTellsBits(t *testing.T) {
	r := rand.New(rand.NewSource(3))
	for range 20000 {
		b := random(r, 4+r.Intn(40))
		other := turned(b, r.Intn(8*len(b)-31), r.Uint32()|1)
		if frame.Sum(b) == frame.Sum(other) {
			t.Fatalf("Sum(%x) is Sum(%x)", b, other)
		}
	}
}

// TestScanAgainstTheModel holds P11.3: frames, some of them spoilt, cut off, changed in their places, with bytes behind them.
func TestScanAgainstTheModel(t *testing.T) {
	r := rand.New(rand.NewSource(4))
	for range 6000 {
		b := randomFrames(r, 5, 20).bytes
		for range r.Intn(3) {
			b = spoilt(r, b)
		}
		payloads, place := modelScan(b)
		checkScan(t, "spoilt", b, payloads, place)
	}
}

func spoilt(r *rand.Rand, b []byte) []byte {
	i := r.Intn(len(b) + 1)
	switch r.Intn(4) {
	case 0:
		return row(b[:i], random(r, r.Intn(13)), b[i:])
	case 1:
		return row(b[:i], framed(random(r, r.Intn(9))), b[i:])
	case 2:
		changed := append(bytes.Clone(b), 0)
		changed[i] ^= byte(1 + r.Intn(255))
		return changed
	}
	return row(b[:i], b[i+r.Intn(len(b)+1-i):])
}

// TestEveryBeginning holds P11.4: it ends within a length, within its sum, within a payload, within the payload's sum, or between two frames.
func TestEveryBeginning(t *testing.T) {
	r := rand.New(rand.NewSource(5))
	list := []frames{few(), framesOf(), framesOf(nil), framesOf(random(r, 1000), nil, random(r, 70))}
	for range 200 {
		list = append(list, randomFrames(r, 6, 40))
	}
	for _, f := range list {
		for n := range len(f.bytes) + 1 {
			f.check(t, "a beginning", f.bytes[:n], f.ahead(n))
			if n%7 == 0 {
				f.check(t, "a beginning in memory of its own", bytes.Clone(f.bytes[:n]), f.ahead(n))
			}
		}
	}
}

// turned gives b with bits turned: the lowest of pattern at place, the others at the places behind it.
func turned(b []byte, place int, pattern uint32) []byte {
	other := bytes.Clone(b)
	for i := range 32 {
		if at := place + i; pattern>>i&1 == 1 {
			other[at/8] ^= 0x80 >> (at % 8)
		}
	}
	return other
}

func (f frames) checkTurned(t *testing.T, place int, pattern uint32) {
	t.Helper()
	if place+bits.Len32(pattern) > 8*len(f.bytes) {
		return
	}
	f.check(t, "bits turned", turned(f.bytes, place, pattern), f.ahead(place/8))
}

// TestBitsTurned holds P11.5 at every place, at every width from 1 to 32: the two ends alone, all, and some between them.
func TestBitsTurned(t *testing.T) {
	r := rand.New(rand.NewSource(6))
	f := few()
	for place := range 8 * len(f.bytes) {
		for width := 1; width <= 32; width++ {
			ends, all := uint32(1)|1<<(width-1), ^uint32(0)>>(32-width)
			f.checkTurned(t, place, ends)
			f.checkTurned(t, place, all)
			for range 6 {
				f.checkTurned(t, place, r.Uint32()&all|ends)
			}
		}
		for _, pattern := range []uint32{0x04C11DB7, 0xEDB88321, 0x82608EDB, 0xDB710641} { // what sums are turned by, or nearly, in both orders
			f.checkTurned(t, place, pattern)
		}
	}
}

// TestBitsTurnedInTheFirst holds P11.5 at every pattern of a few bits' width, and where one frame ends and the next begins.
func TestBitsTurnedInTheFirst(t *testing.T) {
	f := framesOf([]byte("ab"), []byte("c"))
	for pattern := uint32(1); pattern < 1<<11; pattern += 2 {
		for place := range 8 * len(f.bytes) {
			f.checkTurned(t, place, pattern)
		}
	}
}

// TestBitsTurnedFarOff holds P11.5 in frames of long payloads.
func TestBitsTurnedFarOff(t *testing.T) {
	r := rand.New(rand.NewSource(7))
	f := framesOf([]byte("ahead"), random(r, 1<<16), random(r, 300), random(r, api.MaxRecord), []byte("behind"))
	last := 8 * len(f.bytes)
	for _, place := range f.places[:len(f.places)-1] {
		for _, at := range []int{0, 20, 60, 64, 70} {
			f.checkTurned(t, 8*place+at, r.Uint32()|1)
		}
	}
	for _, place := range f.places[1:] {
		for _, at := range []int{-64, -40, -32, -31, -1} {
			f.checkTurned(t, 8*place+at, 1)
		}
	}
	for range 40 {
		f.checkTurned(t, r.Intn(last-32), r.Uint32()|1)
	}
}

// spacious gives b in memory with spare room that is told from nought.
func spacious(b []byte, spare ...byte) []byte {
	with := row(b, spare)
	return with[:len(b)]
}

func whole[T any](l []T) []T { return l[:cap(l)] }

func fill(b []byte) {
	for i := range whole(b) {
		whole(b)[i] = 0xEE
	}
}

// TestHandedIn holds R3: what is handed in stays, its spare room too, and what stands in that room doesn't matter.
func TestHandedIn(t *testing.T) {
	r := rand.New(rand.NewSource(8))
	for range 3000 {
		f := randomFrames(r, 4, 30)
		n := r.Intn(len(f.bytes) + 1)
		in := spacious(f.bytes[:n], row(f.bytes[n:], random(r, 20))...)
		was := bytes.Clone(whole(in))
		sum, wrap := frame.Sum(in), wrapped(t, in)
		payloads, place := frame.Scan(in)
		if !bytes.Equal(whole(in), was) {
			t.Fatalf("what was handed in is another: %x, not %x", whole(in), was)
		}
		fill(in)
		if sum != plainSum(was[:n]) || !bytes.Equal(wrap, framed(was[:n])) || place != f.places[f.ahead(n)] || !same(payloads, f.payloads[:f.ahead(n)]) {
			t.Fatalf("an answer changes with what was handed in: %x", was[:n])
		}
	}
}

// TestAnswersAreNew holds R3: what is answered shares no memory with what was handed in, nor payloads with one another, their spare room too.
func TestAnswersAreNew(t *testing.T) {
	r := rand.New(rand.NewSource(9))
	for range 3000 {
		f := randomFrames(r, 5, 30)
		in := bytes.Clone(f.bytes)
		payloads, _ := frame.Scan(in)
		for i := range payloads {
			fill(payloads[i])
			payloads[i] = append(payloads[i], 1, 2, 3)
			if !same(payloads[i+1:], f.payloads[i+1:]) {
				t.Fatalf("payload %d shares memory with one behind it", i)
			}
			payloads[i] = nil
		}
		fill(wrapped(t, in))
		for i := range whole(payloads) {
			whole(payloads)[i] = []byte("other")
		}
		if !bytes.Equal(in, f.bytes) {
			t.Fatalf("an answer shares memory with what was handed in: %x", in)
		}
		f.check(t, "asked again", in, len(f.payloads))
	}
}

// TestPayloadsApart holds that a payload stays where those ahead of it and behind it are changed.
func TestPayloadsApart(t *testing.T) {
	f := few()
	for kept := range f.payloads {
		payloads, _ := frame.Scan(f.bytes)
		for i := range payloads {
			if i != kept {
				fill(payloads[i])
			}
		}
		if !bytes.Equal(payloads[kept], f.payloads[kept]) {
			t.Fatalf("payload %d shares memory with others", kept)
		}
	}
}

// TestNothingIsKept holds R4: what was asked before doesn't matter, nor who else asks.
func TestNothingIsKept(t *testing.T) {
	f := few()
	var group sync.WaitGroup
	for range 8 {
		group.Add(1)
		go func() {
			defer group.Done()
			for n := range len(f.bytes) + 1 {
				b := f.bytes[:n]
				payloads, place := frame.Scan(b)
				again, err := frame.Wrap(b)
				if frame.Sum(b) != plainSum(b) || !same(payloads, f.payloads[:f.ahead(n)]) || place != f.places[f.ahead(n)] || err != nil || !bytes.Equal(again, framed(b)) {
					t.Errorf("%x: %x, %d, %x, %v", b, payloads, place, again, err)
				}
			}
		}()
	}
	group.Wait()
}
