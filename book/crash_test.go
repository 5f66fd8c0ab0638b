package book_test

import (
	"fmt"
	"math/bits"
	"slices"
	"testing"

	"voyage/api"
	"voyage/book"
	"voyage/disk"
)

// crash is what a crash leaves of the tail, and which of its bits it turns.
type crash struct {
	keep, at int
	turn     uint32
}

// firstTurned is the first bit of the tail that is turned; of none: the first beyond what stays.
func (c crash) firstTurned(stays int) int {
	if c.at < 0 || c.turn == 0 {
		return 8 * stays
	}
	return min(8*stays, c.at+bits.LeadingZeros32(c.turn))
}

// left tells how many of the tail's events stay: those whose frames are wholly ahead of what is gone or turned.
func (c crash) left(tail []api.Event) int {
	stays := min(max(c.keep, 0), len(fileOf(tail...)))
	n := 0
	for n < len(tail) && 8*len(fileOf(tail[:n+1]...)) <= c.firstTurned(stays) {
		n++
	}
	return n
}

// checkCrash holds P14.6 of a disk whose book had the events of both lists (in the second one, at its end, that whose Add answered ErrDown), the first ones synced.
func checkCrash(t *testing.T, d *disk.Disk, safe, tail []api.Event, c crash) *book.Book {
	t.Helper()
	what := fmt.Sprintf("Crash(%d, %d, %08X) with %d synced, %d not", c.keep, c.at, c.turn, len(safe), len(tail))
	if synced := len(fileOf(safe...)); d.Synced() != synced {
		t.Fatalf("%s: %d bytes are safe, not %d", what, d.Synced(), synced)
	}
	d.Crash(c.keep, c.at, c.turn)
	want := slices.Concat(safe, tail[:c.left(tail)])
	opened(t, what, d, want...)
	lookSynced(t, what, d, len(fileOf(want...)), true)
	d.Arm(1)
	b := opened(t, what+", a second Open", d, want...)
	lookSynced(t, what+", a second Open cuts nothing off", d, len(fileOf(want...)), true)
	d.Arm(0)
	return b
}

// journal is a book with events that are synced and others that aren't.
func journal(t *testing.T, safe, tail []api.Event) (*disk.Disk, *book.Book) {
	t.Helper()
	d, b := holding(t, safe...)
	check(t, "Sync", b.Sync(), nil)
	addAll(t, b, tail...)
	return d, b
}

func turns() []uint32 {
	return []uint32{0xFFFFFFFF, 0x80000000, 1, 0x80000001, 0x00010000, 0xDEADBEEF}
}

// TestCrashKeeps holds P14.6 of every number of bytes that stay, none of their bits turned.
func TestCrashKeeps(t *testing.T) {
	for n := range len(forms()) + 1 {
		safe, tail := forms()[:n], forms()[n:]
		for keep := -1; keep <= len(fileOf(tail...))+1; keep++ {
			for _, c := range []crash{{keep, -1, 0xFFFFFFFF}, {keep, 0, 0}} {
				d, _ := journal(t, safe, tail)
				checkCrash(t, d, safe, tail, c)
			}
		}
	}
}

// TestCrashTurns holds P14.6 of bits turned at every place of the tail: at its beginning, in its middle, across the border of two frames, at its end and beyond.
func TestCrashTurns(t *testing.T) {
	safe, tail := forms()[5:], forms()[:4]
	size := len(fileOf(tail...))
	for at := range 8*size + 3 {
		for _, turn := range turns() {
			d, _ := journal(t, safe, tail)
			checkCrash(t, d, safe, tail, crash{size, at, turn})
		}
	}
}

// TestCrashKeepsAndTurns holds P14.6 of a tail of three frames, of which some bytes stay with bits turned: every number of bytes, every place.
func TestCrashKeepsAndTurns(t *testing.T) {
	safe, tail := []api.Event{moved(7, 7)}, []api.Event{moved(), moved(1), moved(1, 2)}
	size := len(fileOf(tail...))
	for keep := range size + 1 {
		for at := 0; at < 8*keep+2; at++ {
			d := standing(t, fileOf(safe...), fileOf(tail...))
			checkCrash(t, d, safe, tail, crash{keep, at, turns()[(keep+at)%len(turns())]})
		}
	}
}

// TestCrashBorders holds P14.6 at the borders that the chapter of frames tells: bits turned around each of them, within all that stays.
func TestCrashBorders(t *testing.T) {
	tail := forms()
	size := len(fileOf(tail...))
	for n := range tail {
		begins := 8 * len(fileOf(tail[:n]...))
		ends := 8 * len(fileOf(tail[:n+1]...))
		for _, border := range []int{begins, begins + 32, begins + 64, ends - 32, ends} {
			for at := max(0, border-33); at <= border+1; at++ {
				for _, turn := range turns() {
					checkCrash(t, standing(t, nil, fileOf(tail...)), nil, tail, crash{size, at, turn})
				}
			}
		}
	}
}

// TestCrashInAdd holds P14.6 where the power goes in an Add: behind all others its event may be there, too.
func TestCrashInAdd(t *testing.T) {
	for n := range len(forms()) {
		safe, had, e := forms()[:n/2], forms()[n/2:n], forms()[n]
		tail := slices.Concat(had, []api.Event{e})
		size := len(fileOf(tail...))
		for keep := len(fileOf(had...)); keep <= size+1; keep++ {
			for _, at := range []int{-1, 0, 8*size - 1, 8*size - 32, 8*size - 40, 8 * size} {
				d, b := journal(t, safe, had)
				d.Arm(1)
				check(t, "Add", b.Add(e), api.ErrDown)
				check(t, "Add again", b.Add(e), api.ErrDown)
				checkCrash(t, d, safe, tail, crash{keep, at, 0xFFFFFFFF})
			}
		}
	}
}

// TestCrashInSync holds P14.6 where the power goes in a Sync: what it was to make safe may go.
func TestCrashInSync(t *testing.T) {
	safe, tail := forms()[:3], forms()[3:]
	for keep := range len(fileOf(tail...)) + 1 {
		d, b := journal(t, safe, tail)
		d.Arm(1)
		check(t, "Sync", b.Sync(), api.ErrDown)
		checkCrash(t, d, safe, tail, crash{keep, 8*keep - 5, 0xFFFFFFFF})
	}
}

// TestCrashInCut holds P14.6 where the power goes in a Cut: it isn't done.
func TestCrashInCut(t *testing.T) {
	safe, tail := forms()[:3], forms()[3:]
	for n := range len(forms()) {
		for keep := 0; keep <= len(fileOf(tail...)); keep += 3 {
			d, b := journal(t, safe, tail)
			d.Arm(1)
			check(t, "Cut", b.Cut(n), api.ErrDown)
			if b.Len() != len(forms()) {
				t.Fatalf("Len: %d", b.Len())
			}
			checkCrash(t, d, safe, tail, crash{keep, 3, 1 << (keep % 32)})
		}
	}
}

// TestCrashBehindCut holds P14.6 behind a Cut of events that were synced, or weren't, and Adds: what was cut off never comes again.
func TestCrashBehindCut(t *testing.T) {
	added := []api.Event{moved(9), moved(9, 9)}
	for n := range len(forms()) + 1 {
		for keep := range len(fileOf(added...)) + 20 {
			d, b := journal(t, forms()[:4], forms()[4:])
			check(t, "Cut", b.Cut(n), nil)
			addAll(t, b, added...)
			safe, tail := forms()[:min(n, 4)], slices.Concat(forms()[min(n, 4):n], added)
			checkCrash(t, d, safe, tail, crash{keep, 8*keep - 1, 0x80000000})
		}
	}
}

// TestCrashAgain holds P14.6 again and again: of a book that goes on behind each crash.
func TestCrashAgain(t *testing.T) {
	d := disk.New()
	b := opened(t, "new", d)
	var had []api.Event
	for i := range 400 {
		more := forms()[i%4 : i%4+1+i%5]
		addAll(t, b, more...)
		if i%3 == 0 {
			check(t, "Sync", b.Sync(), nil)
			had, more = slices.Concat(had, more), nil
		}
		c := crash{i * 7 % 60, i*13%500 - 20, turns()[i%len(turns())]}
		b = checkCrash(t, d, had, more, c)
		had = slices.Concat(had, more[:c.left(more)])
		if len(had) > 40 {
			check(t, "Cut", b.Cut(i%9), nil)
			had = had[:i%9]
		}
	}
}

// TestCrashInEachAct holds P14.6 of one row of calls, where the power goes in each of its acts: what is found is a beginning of what the book had, with what was synced.
func TestCrashInEachAct(t *testing.T) {
	for act := 1; act <= 14; act++ {
		for keep := range 40 {
			d := disk.New()
			d.Arm(act)
			b := opened(t, "new", d)
			var had []api.Event // with that whose Add answered ErrDown
			synced := 0
			add := func(e api.Event) {
				if up := d.Up(); b.Add(e) == nil || up {
					had = append(had, e)
				}
			}
			sync := func() {
				if b.Sync() == nil {
					synced = len(had)
				}
			}
			cut := func(n int) {
				if b.Cut(n) == nil && d.Up() {
					had, synced = had[:n:n], min(synced, n)
				}
			}
			add(moved())
			sync()
			add(moved(1))
			add(moved(2))
			cut(2)
			add(moved(3))
			sync()
			cut(1)
			add(moved(4))
			add(moved(5))
			sync()
			add(moved(6))
			add(moved(7))
			if d.Up() != (act > 13) {
				t.Fatalf("the act %d: Up: %v", act, d.Up())
			}
			checkCrash(t, d, had[:synced], had[synced:], crash{keep, 8*keep - 70, 0xFFFFFFFF})
		}
	}
}
