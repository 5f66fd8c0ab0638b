package book_test

import (
	"fmt"
	"math"
	"math/rand"
	"slices"
	"strings"
	"sync"
	"testing"

	"voyage/api"
	"voyage/book"
	"voyage/disk"
)

func pick[T any](r *rand.Rand, list ...T) T { return list[r.Intn(len(list))] }

func randomText(r *rand.Rand) string {
	b := make([]byte, r.Intn(pick(r, 1, 3, 8, 40)))
	for i := range b {
		b[i] = pick(r, 'a', '"', '\\', 0, 0x7f, byte(r.Intn(128)), byte(r.Intn(256)))
	}
	return string(b)
}

// randomValue is a value in any form; what its Kind doesn't name is there, too.
func randomValue(r *rand.Rand, deep int) api.Value {
	v := api.Value{
		Kind:  pick(r, -1, 0, 1, 2, 3, 4, 5, 6),
		Truth: r.Intn(2) == 0,
		Num:   api.Dec{Neg: r.Intn(2) == 0, Digits: pick(r, "", "0", "1", "15", "00120", "x7"), Exp: pick(r, 0, 1, -2, 9999, 10000)},
		Text:  randomText(r),
	}
	for range r.Intn(deep + 1) {
		v.List = append(v.List, randomValue(r, deep-1))
		v.Fields = append(v.Fields, api.Field{Name: pick(r, "a", "b", "", "\xff"), Value: randomValue(r, deep-1)})
	}
	return v
}

func randomOutcome(r *rand.Rand) api.Outcome {
	if r.Intn(2) == 0 {
		return api.Outcome{Fine: true, Value: randomValue(r, r.Intn(3)), Error: pick(r, "", "", "", "", "e")}
	}
	o := api.Outcome{Error: strings.ToValidUTF8(randomText(r), "é"), Cause: strings.ToValidUTF8(randomText(r), "")}
	if r.Intn(8) == 0 {
		o.Value, o.Cause = randomValue(r, 1), randomText(r)
	}
	return o
}

// randomEvent is an event with something in all its fields, its parts or not. Most of them may be told.
func randomEvent(r *rand.Rand) api.Event {
	place := make([]int, pick(r, 0, 0, 1, 2, 3, 6, r.Intn(10)))
	for i := range place {
		place[i] = pick(r, 0, 1, 2, 127, 128, 300, r.Intn(math.MaxInt32), math.MaxInt32)
		if r.Intn(60) == 0 {
			place[i] = pick(r, -1, math.MaxInt32+1)
		}
	}
	return api.Event{
		Kind:    pick(r, 1, 2, 3, 4, 5, 6, 7, 1+r.Intn(7), r.Intn(11)-1),
		Place:   place,
		Time:    pick(r, 0, 12, r.Int63n(api.MaxTime), api.MaxTime, api.MaxTime+r.Int63n(2), r.Int63n(20)-1),
		Outcome: randomOutcome(r),
		Machine: randomText(r),
		Input:   randomText(r),
		Fuel:    pick(r, 1, 200, api.MaxFuel, 1+r.Intn(api.MaxFuel), r.Intn(2), api.MaxFuel+r.Intn(2)),
	}
}

// pair is a book with its model, on disks to which the same is done.
type pair struct {
	disk  *disk.Disk
	book  *book.Book // nil: it wasn't opened
	model *model
	row   []string
}

func newPair(t *testing.T) *pair {
	t.Helper()
	p := &pair{disk: disk.New(), model: &model{disk: disk.New()}}
	p.open(t)
	return p
}

// do holds a call's two answers, and all that can be seen behind it, against each other.
func (p *pair) do(t *testing.T, what string, got, want error) {
	t.Helper()
	p.row = append(p.row, what)
	told := strings.Join(p.row, ", ")
	check(t, told, got, want)
	lookDisk(t, told, p.disk, p.model.disk.Bytes())
	lookSynced(t, told, p.disk, p.model.disk.Synced(), p.model.disk.Up())
	if p.book != nil && p.book.Len() != p.model.Len() {
		t.Fatalf("%s: Len: %d, not %d", told, p.book.Len(), p.model.Len())
	}
}

func (p *pair) open(t *testing.T) {
	t.Helper()
	b, events, err := book.Open(p.disk)
	want := p.model.open()
	p.book = b
	p.do(t, "Open", err, want)
	if (b == nil) != (want != nil) || want != nil && events != nil || want == nil && !alikeLists(events, p.model.events) {
		t.Fatalf("%s: %v, %s; not %s", strings.Join(p.row, ", "), b, shown(events...), shown(p.model.events...))
	}
}

// crash crashes both disks, and opens them twice.
func (p *pair) crash(t *testing.T, keep, at int, turn uint32) {
	t.Helper()
	for _, d := range []*disk.Disk{p.disk, p.model.disk} {
		d.Crash(keep, at, turn)
	}
	p.row = append(p.row, fmt.Sprintf("Crash(%d, %d, %08X)", keep, at, turn))
	p.open(t)
	p.open(t)
}

func (p *pair) arm(n int) {
	p.disk.Arm(n)
	p.model.disk.Arm(n)
	p.row = append(p.row, fmt.Sprintf("Arm(%d)", n))
}

// append lays bytes behind the journal that are none of the book's; it must be opened anew then.
func (p *pair) append(t *testing.T, b []byte) {
	t.Helper()
	p.do(t, "Append("+short(b)+")", p.disk.Append(b), p.model.disk.Append(b))
	p.open(t)
}

func randomTail(r *rand.Rand) []byte {
	b := make([]byte, r.Intn(20))
	r.Read(b)
	whole := fileOf(forms()...)
	return pick(r, b, whole[:r.Intn(len(whole)+1)], plainFrame(b), slices.Concat(fileOf(moved(5)), plainFrame(noRecords()[r.Intn(len(noRecords()))]), whole))
}

// randomCrash is around the last frames, or anywhere.
func randomCrash(r *rand.Rand, tail int) (int, int, uint32) {
	keep := pick(r, tail, tail+1, max(0, tail-r.Intn(60)), r.Intn(tail+1), -1, 0, math.MaxInt)
	at := pick(r, -1, r.Intn(8*tail+1), max(0, 8*min(keep, tail)-r.Intn(300)), math.MaxInt)
	return keep, at, pick(r, 0, 1, 1<<31, 0xFFFFFFFF, 1<<r.Intn(32), r.Uint32())
}

func (p *pair) step(t *testing.T, r *rand.Rand) {
	t.Helper()
	if p.book == nil || r.Intn(12) == 0 || !p.disk.Up() && r.Intn(3) == 0 {
		p.crash(t, 0, 0, 0)
	}
	switch n := p.model.Len(); r.Intn(14) {
	case 0, 1, 2, 3, 4, 5:
		e := randomEvent(r)
		p.do(t, "Add("+shown(e)+")", p.book.Add(e), p.model.Add(e))
	case 6, 7:
		p.do(t, "Sync", p.book.Sync(), p.model.Sync())
	case 8, 9:
		to := pick(r, n, n+1, n-1, n-2, -1, 0, r.Intn(n+1), math.MinInt, math.MaxInt)
		p.do(t, fmt.Sprintf("Cut(%d)", to), p.book.Cut(to), p.model.Cut(to))
	case 10:
		p.arm(pick(r, 0, 1, 2, 3, 5, 9, -1))
	case 11:
		p.open(t)
	case 12:
		p.append(t, randomTail(r))
	case 13:
		p.crash(t, 0, 0, 0)
	}
}

// TestRandomRows holds P14.1 to P14.5: long rows of calls, against the model.
func TestRandomRows(t *testing.T) {
	r := rand.New(rand.NewSource(1))
	for range 1500 {
		p := newPair(t)
		for range 60 {
			if r.Intn(10) == 0 {
				keep, at, turn := randomCrash(r, len(p.disk.Bytes())-p.disk.Synced())
				p.crash(t, keep, at, turn)
			}
			p.step(t, r)
		}
	}
}

// TestRandomFiles holds P14.1: any bytes, of which some begin as a journal does; what was opened is opened again with nothing to cut off.
func TestRandomFiles(t *testing.T) {
	r := rand.New(rand.NewSource(2))
	for range 4000 {
		file := fileOf(forms()[r.Intn(4) : 4+r.Intn(4)]...)
		for range r.Intn(3) {
			file = slices.Concat(file, randomTail(r))
		}
		if i := r.Intn(len(file) + 1); i < len(file) && r.Intn(2) == 0 {
			file[i] ^= byte(1 + r.Intn(255))
		}
		safe := r.Intn(len(file) + 1)
		want := eventsIn(file)
		d := standing(t, file[:safe], file[safe:])
		opened(t, short(file), d, want...)
		d.Arm(1)
		opened(t, short(file)+", again", d, want...)
		lookSynced(t, short(file), d, min(safe, len(fileOf(want...))), true)
	}
}

// TestRandomCrashes holds P14.6 without a model of the journal: any events, some of them synced, and any crash.
func TestRandomCrashes(t *testing.T) {
	r := rand.New(rand.NewSource(3))
	for range 3000 {
		d, b := holding(t)
		var had []api.Event
		synced := 0
		for range r.Intn(12) {
			e := randomEvent(r)
			if b.Add(e) != nil {
				continue
			}
			_, form, _ := book.Open(d)
			had = append(had, form[len(form)-1])
			if r.Intn(4) == 0 {
				check(t, "Sync", b.Sync(), nil)
				synced = len(had)
			}
			if r.Intn(6) == 0 {
				n := r.Intn(len(had) + 1)
				check(t, "Cut", b.Cut(n), nil)
				had, synced = had[:n:n], min(synced, n)
			}
		}
		keep, at, turn := randomCrash(r, len(d.Bytes())-d.Synced())
		checkCrash(t, d, had[:synced], had[synced:], crash{keep, min(at, 1<<40), turn})
	}
}

// TestSideBySide holds R4: books whose calls are mixed are each as its own model.
func TestSideBySide(t *testing.T) {
	r := rand.New(rand.NewSource(4))
	for range 100 {
		pairs := []*pair{newPair(t), newPair(t), newPair(t)}
		for range 150 {
			pairs[r.Intn(len(pairs))].step(t, r)
			for _, other := range pairs {
				lookDisk(t, "a call of one book reaches another", other.disk, other.model.disk.Bytes())
				if other.book != nil && other.book.Len() != other.model.Len() {
					t.Fatalf("a call of one book reaches another: Len: %d, not %d", other.book.Len(), other.model.Len())
				}
			}
		}
	}
}

// TestAtOnce holds R4: books of their own disks can be asked at the same time.
func TestAtOnce(t *testing.T) {
	var group sync.WaitGroup
	for worker := range 8 {
		group.Add(1)
		go func() {
			defer group.Done()
			r := rand.New(rand.NewSource(int64(100 + worker)))
			m := &model{disk: disk.New()}
			d := disk.New()
			b, _, _ := book.Open(d)
			for range 300 {
				e := randomEvent(r)
				if got, want := b.Add(e), m.Add(e); got != want {
					t.Errorf("Add: %v, not %v", got, want)
				}
				if n := r.Intn(b.Len() + 1); r.Intn(9) == 0 && (b.Cut(n) != nil || m.Cut(n) != nil) {
					t.Error("Cut")
				}
			}
			if _, events, err := book.Open(d); err != nil || !alikeLists(events, m.events) {
				t.Errorf("%s, %v; not %s", shown(events...), err, shown(m.events...))
			}
		}()
	}
	group.Wait()
}
