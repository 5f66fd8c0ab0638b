package disk_test

import (
	"bytes"
	"math/bits"
	"math/rand"
	"slices"
	"testing"

	"voyage/api"
	"voyage/disk"
)

// few are calls of every sort.
func few() []step {
	return []step{
		appends(), appends(0xA5), appends(0x0F, 0xF0, 0x3C), syncs(),
		cuts(0), cuts(1), cutsOff(0), cutsOff(1), cutsOff(-1), cuts(-1),
		arms(0), arms(1), arms(2), arms(3),
		crashes(0, -1, 0), crashes(1, 3, 0xFFFFFFFF), crashes(2, 9, 0xC0000001), crashes(9, -1, 0xFFFFFFFF),
	}
}

// TestEveryRow holds P12.1 to P12.7: every row of four calls, against the model.
func TestEveryRow(t *testing.T) {
	list := few()
	n := len(list)
	for i := range n * n * n * n {
		p := newPair()
		for _, at := range []int{i, i / n, i / n / n, i / n / n / n} {
			p.do(t, list[at%n])
		}
	}
}

func randomBytes(r *rand.Rand) []byte {
	b := make([]byte, r.Intn(1+r.Intn(12)))
	r.Read(b)
	return b
}

// place is a number around 0 to n, or far from them.
func place(r *rand.Rand, n int) int {
	if r.Intn(12) == 0 {
		far := slices.Concat(least(), greatest())
		return far[r.Intn(len(far))]
	}
	return r.Intn(n+5) - 2
}

func turn(r *rand.Rand) uint32 {
	return []uint32{0, 1, 1 << 31, 0xFFFFFFFF, 1 << r.Intn(32), r.Uint32()}[r.Intn(6)]
}

// randomStep is a call of a disk that has so many bytes; one in rare is a Crash.
func randomStep(r *rand.Rand, n, rare int) step {
	if r.Intn(rare) == 0 {
		return crashes(place(r, 12), place(r, 8*12), turn(r))
	}
	switch r.Intn(10) {
	case 0, 1, 2, 3:
		return appends(randomBytes(r)...)
	case 4, 5, 6:
		return syncs()
	case 7, 8:
		return cuts(max(place(r, n), n-r.Intn(9)-1)) // near the end, so that there is something left
	}
	return arms(place(r, 6))
}

// worn is a disk of which any calls were made.
func worn(r *rand.Rand) *disk.Disk {
	d := disk.New()
	for range r.Intn(20) {
		randomStep(r, len(d.Bytes()), 8).do(d)
	}
	return d
}

// TestRandomRows holds P12.1 to P12.7: long rows of calls, against the model.
func TestRandomRows(t *testing.T) {
	r := rand.New(rand.NewSource(1))
	for i := range 3000 {
		p := newPair()
		for range 60 {
			p.do(t, randomStep(r, len(p.model.cells), 2+i%8))
			if r.Intn(20) == 0 {
				p.do(t, cuts(place(r, len(p.model.cells))))
			}
		}
	}
}

// TestEveryCrash holds P12.7: every number of bytes that stay, from every bit on, with turns of single bits, of pairs and of all.
func TestEveryCrash(t *testing.T) {
	turns := []uint32{0, 0xFFFFFFFF, 0x80000001, 0x12345678, 0xA5A5A5A5}
	for i := range 32 {
		turns = append(turns, 1<<i)
	}
	for keep := -1; keep <= 8; keep++ {
		for at := -2; at <= 8*7+2; at++ {
			for i, turn := range turns {
				p := newPair()
				for _, s := range []step{appends(0xC3, 0x5A), syncs(), appends(0x01, 0x80, 0xFF, 0, 0x7E, 0x3C, 0x99)} {
					p.do(t, s)
				}
				if i%2 == 1 {
					p.do(t, arms(1))
					p.do(t, syncs())
				}
				p.do(t, crashes(keep, at, turn))
			}
		}
	}
}

// TestTurnedInARow holds P12.7 without the model: as many bits are unlike as turn has and as there is room for, all of them within 32 in a row from at on.
func TestTurnedInARow(t *testing.T) {
	r := rand.New(rand.NewSource(2))
	for range 20000 {
		safe, tail := randomBytes(r), randomBytes(r)
		d := disk.New()
		d.Append(safe)
		d.Sync()
		d.Append(tail)
		at, turn := r.Intn(8*len(tail)+40), turn(r)
		d.Crash(len(tail), at, turn)
		got := d.Bytes()
		if !bytes.Equal(got[:len(safe)], safe) || len(got) != len(safe)+len(tail) {
			t.Fatalf("% X and % X: % X", safe, tail, got)
		}
		unlike := 0
		for i := range 8 * len(tail) {
			if mask := byte(0x80) >> (i % 8); (got[len(safe)+i/8]^tail[i/8])&mask != 0 {
				unlike++
				if i < at || i >= at+32 || turn<<(i-at)>>31 == 0 {
					t.Fatalf("% X, from %d on %08X: % X", tail, at, turn, got[len(safe):])
				}
			}
		}
		if room := max(0, 8*len(tail)-at); unlike != bits.OnesCount32(uint32(uint64(turn)>>max(0, 32-room))) {
			t.Fatalf("% X, from %d on %08X: %d bits", tail, at, turn, unlike)
		}
	}
}

// TestSafeStay holds P12.9: what is safe stays, but for a Cut ahead of it.
func TestSafeStay(t *testing.T) {
	r := rand.New(rand.NewSource(3))
	for i := range 2000 {
		d := disk.New()
		row := []step{}
		for range 60 {
			file := d.Bytes()
			safe, stays := file[:d.Synced()], d.Synced()
			s, n := randomStep(r, len(file), 2+i%8), r.Intn(len(file)+1)
			if r.Intn(8) == 0 {
				s = cuts(n)
				if d.Up() {
					stays = min(stays, n)
				}
			} else if s.name[:3] == "Cut" {
				continue
			}
			row = append(row, s)
			if s.do(d) != nil {
				stays = len(safe)
			}
			if now := d.Bytes(); d.Synced() < stays || len(now) < d.Synced() || !bytes.HasPrefix(now, safe[:stays]) {
				t.Fatalf("%s: of % X % X is left, %d safe", told(row), safe, now, d.Synced())
			}
		}
	}
}

// TestOffStays holds P12.10: while the power is off nothing changes, whatever is called, but by Crash.
func TestOffStays(t *testing.T) {
	r := rand.New(rand.NewSource(4))
	for range 2000 {
		d := worn(r)
		if !d.Up() {
			d.Crash(3, -1, 0)
		}
		d.Arm(1)
		check(t, "the last act", []step{appends(1, 2), syncs(), cuts(0)}[r.Intn(3)].do(d), api.ErrDown)
		file, synced := d.Bytes(), d.Synced()
		for range 20 {
			s := randomStep(r, len(file), 1<<30)
			want := api.ErrDown
			if s.name[:3] == "Arm" {
				want = nil
			}
			check(t, s.name, s.do(d), want)
			if d.Up() || d.Synced() != synced || !bytes.Equal(d.Bytes(), file) {
				t.Fatalf("%s changes a disk whose power is off", s.name)
			}
		}
	}
}

// TestWhichAct holds P12.10: of the acts behind Arm(n) the first n - 1 answer nil, the n-th and those behind it ErrDown; what is refused, and what isn't an act, lies between them.
func TestWhichAct(t *testing.T) {
	r := rand.New(rand.NewSource(5))
	for n := 1; n < 200; n++ {
		for range 5 {
			d := disk.New()
			d.Arm(n)
			for act := 1; act < n+5; act++ {
				size := len(d.Bytes())
				want := error(nil)
				if act >= n {
					want = api.ErrDown
				}
				if r.Intn(2) == 0 && act <= n {
					check(t, "Cut of too much", d.Cut(size+1+r.Intn(3)), api.ErrArg)
				}
				s := []step{appends(randomBytes(r)...), syncs(), cuts(size), cuts(size / 2)}[r.Intn(4)]
				if got := s.do(d); got != want || d.Up() == (act >= n) {
					t.Fatalf("%s, the act %d behind Arm(%d): %v, Up %v", s.name, act, n, got, d.Up())
				}
			}
		}
	}
}

// TestSideBySide holds P12.8: disks whose calls are mixed are each as its own model.
func TestSideBySide(t *testing.T) {
	r := rand.New(rand.NewSource(6))
	for range 600 {
		pairs := []*pair{newPair(), newPair(), newPair()}
		for range 120 {
			p := pairs[r.Intn(len(pairs))]
			p.do(t, randomStep(r, len(p.model.cells), 6))
			for _, other := range pairs {
				if !bytes.Equal(other.disk.Bytes(), other.model.Bytes()) || other.disk.Up() != other.model.Up() || other.disk.Synced() != other.model.Synced() {
					t.Fatal("a call of one disk reaches another")
				}
			}
		}
	}
}

// TestCrashedTwice holds what the book leans on (T3): a second Crash right behind the first one leaves all as it is, whatever it is told.
func TestCrashedTwice(t *testing.T) {
	r := rand.New(rand.NewSource(7))
	for range 2000 {
		d := worn(r)
		crashes(place(r, 12), place(r, 8*12), turn(r)).do(d)
		file := d.Bytes()
		crashes(place(r, 12), place(r, 8*12), turn(r)).do(d)
		if !bytes.Equal(d.Bytes(), file) || d.Synced() != len(file) || !d.Up() {
			t.Fatalf("% X: % X, %d safe", file, d.Bytes(), d.Synced())
		}
	}
}
