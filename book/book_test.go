package book_test

import (
	"bytes"
	"fmt"
	"slices"
	"strings"
	"testing"

	"voyage/api"
	"voyage/book"
	"voyage/disk"
)

func check(t *testing.T, what string, got, want error) {
	t.Helper()
	if got != want {
		t.Fatalf("%s: %v, not %v", what, got, want)
	}
}

// standing is a disk with safe bytes and a tail behind them.
func standing(t *testing.T, safe, tail []byte) *disk.Disk {
	t.Helper()
	d := disk.New()
	check(t, "Append", d.Append(safe), nil)
	check(t, "Sync", d.Sync(), nil)
	check(t, "Append", d.Append(tail), nil)
	return d
}

// off is a disk likewise, whose power is off.
func off(t *testing.T, safe, tail []byte) *disk.Disk {
	t.Helper()
	d := standing(t, safe, tail)
	d.Arm(1)
	check(t, "Sync", d.Sync(), api.ErrDown)
	return d
}

// opened holds that a disk is opened with these events.
func opened(t *testing.T, what string, d *disk.Disk, want ...api.Event) *book.Book {
	t.Helper()
	b, events, err := book.Open(d)
	if b == nil || err != nil {
		t.Fatalf("%s: Open of %s: %v, %v", what, short(d.Bytes()), b, err)
	}
	if !alikeLists(events, want) {
		t.Fatalf("%s: Open finds %s; not %s", what, shown(events...), shown(want...))
	}
	look(t, what, d, b, want...)
	return b
}

func notOpened(t *testing.T, what string, d *disk.Disk, want error) {
	t.Helper()
	if b, events, err := book.Open(d); b != nil || events != nil || err != want {
		t.Fatalf("%s: Open: %v, %s, %v; not %v", what, b, shown(events...), err, want)
	}
}

// look holds that a book has as many events as these, and its disk their frames, nothing else.
func look(t *testing.T, what string, d *disk.Disk, b *book.Book, want ...api.Event) {
	t.Helper()
	if b.Len() != len(want) {
		t.Fatalf("%s: Len: %d, not %d", what, b.Len(), len(want))
	}
	lookDisk(t, what, d, fileOf(want...))
}

func lookDisk(t *testing.T, what string, d *disk.Disk, want []byte) {
	t.Helper()
	if got := d.Bytes(); !bytes.Equal(got, want) {
		t.Fatalf("%s: the disk: %s, not %s", what, short(got), short(want))
	}
}

func lookSynced(t *testing.T, what string, d *disk.Disk, want int, up bool) {
	t.Helper()
	if d.Synced() != want || d.Up() != up {
		t.Fatalf("%s: %d bytes are safe, not %d; Up: %v, not %v", what, d.Synced(), want, d.Up(), up)
	}
}

func addAll(t *testing.T, b *book.Book, events ...api.Event) {
	t.Helper()
	for _, e := range events {
		check(t, "Add", b.Add(e), nil)
	}
}

// holding is a book with these events, none of them synced.
func holding(t *testing.T, events ...api.Event) (*disk.Disk, *book.Book) {
	t.Helper()
	d := disk.New()
	b := opened(t, "new", d)
	addAll(t, b, events...)
	return d, b
}

// TestExamples holds the chapter's examples, line by line.
func TestExamples(t *testing.T) {
	one, two, three := moved(), moved(1), moved(1, 2)
	d := disk.New()
	b := opened(t, "a new disk", d)
	addAll(t, b, one, two)
	check(t, "Sync", b.Sync(), nil)
	addAll(t, b, three)
	look(t, "three events", d, b, one, two, three)
	lookSynced(t, "three events", d, 29, true)
	if n := len(d.Bytes()); n != 45 {
		t.Fatalf("the disk has %d bytes", n)
	}

	d.Crash(10, -1, 0)
	b = opened(t, "ten bytes are left", d, one, two)
	if n := len(d.Bytes()); n != 29 {
		t.Fatalf("the disk has %d bytes", n)
	}

	addAll(t, b, three)
	d.Crash(16, 127, 0xFFFFFFFF)
	b = opened(t, "the last bit is turned", d, one, two)

	check(t, "Add of Kind 9", b.Add(api.Event{Kind: 9}), api.ErrEvent)
	check(t, "Cut(3)", b.Cut(3), api.ErrArg)
	check(t, "Cut(-1)", b.Cut(-1), api.ErrArg)
	check(t, "Cut(1)", b.Cut(1), nil)
	look(t, "Cut(1)", d, b, one)
	addAll(t, b, three)
	b = opened(t, "anew", d, one, three)

	d.Arm(1)
	check(t, "Add in which the power goes", b.Add(one), api.ErrDown)
	if b.Len() != 2 {
		t.Fatalf("Len: %d", b.Len())
	}
	opened(t, "the power is off", d, one, three, one)
	d.Crash(99, -1, 0)
	opened(t, "all is left", d, one, three, one)

	check(t, "Append", d.Append([]byte{1}), nil)
	d.Arm(1)
	notOpened(t, "its Cut isn't done", d, api.ErrDown)
}

// TestOrdinary holds P14.1 to P14.5 of events of each of the seven kinds: added one by one, synced now and then, opened anew at each length, cut down one by one.
func TestOrdinary(t *testing.T) {
	d := disk.New()
	b := opened(t, "a new disk", d)
	var file []byte
	var want []api.Event
	safe := 0
	for i, x := range entries() {
		check(t, "Add", b.Add(x.in), nil)
		file, want = append(file, plainFrame(unhex(x.record))...), append(want, x.form)
		lookDisk(t, "the record's frame", d, file)
		look(t, "added", d, b, want...)
		if i%3 == 1 {
			check(t, "Sync", b.Sync(), nil)
			safe = len(file)
		}
		lookSynced(t, "added", d, safe, true)
		opened(t, "anew", standing(t, nil, file), want...)
		if i%4 == 2 {
			b = opened(t, "anew, and it goes on", d, want...)
		}
	}
	for n := len(want) - 1; n >= 0; n-- {
		check(t, "Cut", b.Cut(n), nil)
		look(t, "cut", d, b, want[:n]...)
		lookSynced(t, "cut", d, min(safe, len(fileOf(want[:n]...))), true)
		opened(t, "anew", standing(t, d.Bytes(), nil), want[:n]...)
	}
	addAll(t, b, want...)
	look(t, "added again", d, b, want...)
	opened(t, "anew", d, want...)
}

// TestOneForm holds P14.2: an event's bytes are those of its one form, whatever else its fields tell; Open finds the one form.
func TestOneForm(t *testing.T) {
	for _, x := range entries() {
		free, freely := holding(t, x.in)
		plain, _ := holding(t, x.form)
		lookDisk(t, "told freely", free, plain.Bytes())
		lookDisk(t, "its record's frame", free, plainFrame(unhex(x.record)))
		look(t, "told freely", free, freely, x.form)
		opened(t, "found again", free, x.form)
	}
}

// TestOpenEmpty holds P14.1 of a disk without bytes: new, cut down to nothing, its power off.
func TestOpenEmpty(t *testing.T) {
	opened(t, "new", disk.New())
	cut := standing(t, fileOf(moved()), fileOf(moved(1)))
	check(t, "Cut", cut.Cut(0), nil)
	opened(t, "cut down", cut)
	opened(t, "off", off(t, nil, nil))
	if _, events, _ := book.Open(disk.New()); len(events) != 0 {
		t.Errorf("events of a new disk: %s", shown(events...))
	}
}

// TestOpenNoDisk holds R1: no call panics, at whatever argument.
func TestOpenNoDisk(t *testing.T) { notOpened(t, "no disk", nil, api.ErrArg) }

// noFrames are bytes with which no whole frame of a record begins.
func noFrames() map[string][]byte {
	whole := fileOf(moved(1, 2))
	return map[string][]byte{
		"a nought":              {0},
		"a byte":                {1},
		"eleven bytes":          whole[:11],
		"noughts":               make([]byte, 100),
		"ones":                  bytes.Repeat([]byte{0xFF}, 100),
		"a record":              unhex("02 00"),
		"letters":               []byte("no frame, and longer than one is"),
		"a byte ahead of one":   append([]byte{0}, whole...),
		"a frame without one":   whole[1:],
		"a length of too much":  slices.Concat(unhex("ff ff ff ff"), unhex("ff ff ff ff"), whole),
		"a length, no payload":  whole[:8],
		"a length above a disk": slices.Concat(unhex("00 40 00 01"), bytes.Repeat([]byte{7}, 50)),
	}
}

// noRecords are payloads that are no records.
func noRecords() [][]byte {
	payloads := [][]byte{nil, fileOf(moved())}
	for _, text := range []string{"00", "08", "02", "02 00 00", "02 80 00", "04 00 01 04 5b 31 20 5d", "04 00 02", "05 00", "01 00 00 00", "07 01 ff ff ff ff 0f"} {
		payloads = append(payloads, unhex(text))
	}
	return payloads
}

// TestOpenNoFrame holds P14.1 where bytes that are no frame stand at the beginning or behind frames, safe or in the tail: they are cut off, what was safe ahead of them is so still.
func TestOpenNoFrame(t *testing.T) {
	for name, junk := range noFrames() {
		for n := range len(forms()) + 1 {
			events := forms()[:n]
			file := fileOf(events...)
			for what, d := range map[string]*disk.Disk{
				"all safe":         standing(t, slices.Concat(file, junk), nil),
				"the frames safe":  standing(t, file, junk),
				"none safe":        standing(t, nil, slices.Concat(file, junk)),
				"half of them":     standing(t, file[:len(file)/2], slices.Concat(file[len(file)/2:], junk)),
				"in front of them": standing(t, slices.Concat(file, junk, file), file),
			} {
				what = fmt.Sprintf("%s behind %d, %s", name, n, what)
				safe := min(d.Synced(), len(file))
				b := opened(t, what, d, events...)
				lookSynced(t, what, d, safe, true)
				check(t, "Add", b.Add(moved(7)), nil)
				opened(t, what+", and one added", d, append(slices.Clone(events), moved(7))...)
			}
		}
	}
}

// TestOpenNoRecord holds P14.1 where a whole frame tells no record: it, and the whole frames of records behind it, are cut off.
func TestOpenNoRecord(t *testing.T) {
	for _, payload := range noRecords() {
		for n := range len(forms()) + 1 {
			what := fmt.Sprintf("%s behind %d", short(payload), n)
			ahead, behind := forms()[:n], forms()[n:]
			file := slices.Concat(fileOf(ahead...), plainFrame(payload), fileOf(behind...), fileOf(moved(3), moved(4)))
			b := opened(t, what, standing(t, file, nil), ahead...)
			if b.Len() != n {
				t.Fatalf("%s: Len %d", what, b.Len())
			}
			opened(t, what, standing(t, nil, file), ahead...)
			opened(t, what+", twice", standing(t, nil, slices.Concat(fileOf(ahead...), plainFrame(payload), plainFrame(payload))), ahead...)
		}
	}
}

// TestOpenCutOff holds P14.1 of every beginning of a book's bytes: of a frame that is cut off within its length, that one's sum, its payload, its sum, nothing is left.
func TestOpenCutOff(t *testing.T) {
	events := forms()
	file := fileOf(events...)
	for n := range len(file) + 1 {
		whole := 0
		for whole < len(events) && len(fileOf(events[:whole+1]...)) <= n {
			whole++
		}
		d := standing(t, file[:n/2], file[n/2:n])
		b := opened(t, fmt.Sprintf("%d bytes", n), d, events[:whole]...)
		addAll(t, b, events[whole:]...)
		opened(t, fmt.Sprintf("%d bytes, and the others added", n), d, events...)
	}
}

// TestOpenOff holds P14.1 of a disk whose power is off: it is opened, if there is nothing to cut off; else ErrDown, and all its bytes stay.
func TestOpenOff(t *testing.T) {
	file := fileOf(forms()...)
	d := off(t, file[:30], file[30:])
	b := opened(t, "nothing to cut off", d, forms()...)
	lookSynced(t, "nothing to cut off", d, 30, false)
	check(t, "Add", b.Add(moved()), api.ErrDown)
	check(t, "Sync", b.Sync(), api.ErrDown)
	check(t, "Cut", b.Cut(0), api.ErrDown)
	look(t, "all of them refused", d, b, forms()...)

	for name, junk := range noFrames() {
		all := slices.Concat(file, junk)
		d := off(t, file, junk)
		for range 2 {
			notOpened(t, name, d, api.ErrDown)
			lookDisk(t, name, d, all)
			lookSynced(t, name, d, len(file), false)
		}
		d.Crash(len(junk), -1, 0)
		opened(t, name+", the power is back", d, forms()...)
	}
	d = off(t, slices.Concat(file, plainFrame(nil), file), nil)
	notOpened(t, "no record", d, api.ErrDown)
	lookDisk(t, "no record", d, slices.Concat(file, plainFrame(nil), file))
}

// TestOpenArmed holds P14.1 where the power goes in Open's Cut, or in a later act: what is cut off is one act, nothing to cut off is none.
func TestOpenArmed(t *testing.T) {
	file := fileOf(forms()...)
	for name, junk := range noFrames() {
		d := standing(t, file, junk)
		d.Arm(1)
		for range 2 {
			notOpened(t, name, d, api.ErrDown)
			lookDisk(t, name, d, slices.Concat(file, junk))
			lookSynced(t, name, d, len(file), false)
		}
		d.Crash(len(junk), -1, 0)
		d.Arm(2)
		b := opened(t, name+", armed with 2", d, forms()...)
		lookSynced(t, name, d, len(file), true)
		check(t, "Sync, the second act", b.Sync(), api.ErrDown)
	}
	d := standing(t, file, nil)
	d.Arm(1)
	for range 3 {
		opened(t, "nothing to cut off", d, forms()...)
		lookSynced(t, "nothing to cut off", d, len(file), true)
	}
	b := opened(t, "nothing to cut off", d, forms()...)
	check(t, "Sync, the first act", b.Sync(), api.ErrDown)
}

// TestAddRefused holds P14.2 of events that may not be told: ErrEvent, whether the power is on or off, and no act.
func TestAddRefused(t *testing.T) {
	for _, e := range untellable() {
		for n := range 3 {
			d, b := holding(t, forms()[:n]...)
			d.Arm(1)
			check(t, shown(e), b.Add(e), api.ErrEvent)
			look(t, "refused", d, b, forms()[:n]...)
			lookSynced(t, "refused", d, 0, true)
			check(t, "Sync, the first act", b.Sync(), api.ErrDown)
			check(t, shown(e), b.Add(e), api.ErrEvent)
			check(t, "one that may be told", b.Add(moved()), api.ErrDown)
			look(t, "refused, the power off", d, b, forms()[:n]...)
		}
	}
	d, b := holding(t)
	for _, e := range untellable() {
		check(t, "Add", b.Add(e), api.ErrEvent)
		check(t, "Add", b.Add(moved(b.Len())), nil)
	}
	want := []api.Event{}
	for i := range untellable() {
		want = append(want, moved(i))
	}
	look(t, "refused between others", d, b, want...)
	opened(t, "refused between others", d, want...)
}

// TestAddDown holds P14.2 of an Add in which the power goes: ErrDown, the book has as many events as before, though the bytes are there; those behind it change nothing.
func TestAddDown(t *testing.T) {
	for n := range len(forms()) {
		had, e := forms()[:n], forms()[n]
		with := forms()[:n+1]
		for _, keep := range []int{0, 1, len(fileOf(e)) - 1, len(fileOf(e))} {
			d, b := holding(t, had...)
			check(t, "Sync", b.Sync(), nil)
			d.Arm(1)
			for range 3 {
				check(t, "Add", b.Add(e), api.ErrDown)
				if b.Len() != n {
					t.Fatalf("Len: %d, not %d", b.Len(), n)
				}
				lookDisk(t, "its bytes are there", d, fileOf(with...))
				lookSynced(t, "its bytes are there", d, len(fileOf(had...)), false)
			}
			check(t, "Sync", b.Sync(), api.ErrDown)
			check(t, "Cut of Len", b.Cut(n), nil)
			check(t, "Cut of more", b.Cut(n+1), api.ErrArg)
			if n > 0 {
				check(t, "Cut of less", b.Cut(n-1), api.ErrDown)
			}
			if b.Len() != n {
				t.Fatalf("Len: %d, not %d", b.Len(), n)
			}
			opened(t, "the power is off", d, with...)
			d.Crash(keep, -1, 0)
			if keep < len(fileOf(e)) {
				with = had
			}
			opened(t, "the power is back", d, with...)
			with = forms()[:n+1]
		}
	}
}

// TestSync holds P14.3 with the power on, going in it, and off; also of a book without events it is an act.
func TestSync(t *testing.T) {
	for n := range len(forms()) + 1 {
		d, b := holding(t, forms()[:n]...)
		file := fileOf(forms()[:n]...)
		lookSynced(t, "ahead of it", d, 0, true)
		for range 2 {
			check(t, "on", b.Sync(), nil)
			look(t, "on", d, b, forms()[:n]...)
			lookSynced(t, "on", d, len(file), true)
		}
		check(t, "Add", b.Add(moved()), nil)
		lookSynced(t, "one more", d, len(file), true)
		d.Arm(1)
		for _, what := range []string{"going", "off"} {
			check(t, what, b.Sync(), api.ErrDown)
			look(t, what, d, b, append(forms()[:n:n], moved())...)
			lookSynced(t, what, d, len(file), false)
		}
		d.Crash(0, -1, 0)
		opened(t, "what was synced", d, forms()[:n]...)
	}
}

// TestCut holds P14.4 at every length and every number from -2 on, with the power on, going in it, and off.
func TestCut(t *testing.T) {
	for size := range len(forms()) + 1 {
		had := forms()[:size]
		file := fileOf(had...)
		for n := -2; n <= size+2; n++ {
			for _, power := range []string{"on", "going", "off"} {
				what := fmt.Sprintf("Cut(%d) of %d, %s", n, size, power)
				d, b := holding(t, had...)
				check(t, "Sync", b.Sync(), nil)
				if power != "on" {
					d.Arm(1)
				}
				if power == "off" {
					check(t, "Sync", b.Sync(), api.ErrDown)
				}
				stays, want := had, error(nil)
				switch {
				case n < 0 || n > size:
					want = api.ErrArg
				case n < size && power != "on":
					want = api.ErrDown
				case n < size:
					stays = had[:n]
				}
				check(t, what, b.Cut(n), want)
				look(t, what, d, b, stays...)
				lookSynced(t, what, d, min(len(file), len(fileOf(stays...))), power == "on" || power == "going" && want != api.ErrDown)
				opened(t, what, d, stays...)
			}
		}
	}
}

func TestCutFar(t *testing.T) {
	d, b := holding(t, forms()...)
	for _, n := range []int{-1 << 63, -1 << 62, -1 << 31, 1 << 31, 1 << 62, 1<<63 - 1} {
		check(t, fmt.Sprint(n), b.Cut(n), api.ErrArg)
		look(t, fmt.Sprint(n), d, b, forms()...)
	}
}

// TestCutNoAct holds P14.4: what is refused, and a Cut of Len, is no act of the disk.
func TestCutNoAct(t *testing.T) {
	d, b := holding(t, forms()...)
	d.Arm(1)
	for range 3 {
		check(t, "Cut(Len)", b.Cut(len(forms())), nil)
		check(t, "Cut(-1)", b.Cut(-1), api.ErrArg)
		check(t, "Cut(Len + 1)", b.Cut(len(forms())+1), api.ErrArg)
	}
	lookSynced(t, "no act", d, 0, true)
	check(t, "Cut(0)", b.Cut(0), api.ErrDown)
	look(t, "Cut(0)", d, b, forms()...)
	d, b = holding(t)
	d.Arm(1)
	check(t, "Cut(0) of none", b.Cut(0), nil)
	lookSynced(t, "no act", d, 0, true)
}

// TestAddBehindCut holds P14.4 and P14.2: behind a Cut the disk's bytes are those of a book that never had what was cut off, whatever was added ahead of it and is added behind it.
func TestAddBehindCut(t *testing.T) {
	events := forms()
	for size := range len(events) + 1 {
		for n := range size + 1 {
			for more := range len(events) + 1 {
				d, b := holding(t, events[:size]...)
				check(t, "Cut", b.Cut(n), nil)
				added := slices.Clone(events[len(events)-more:])
				slices.Reverse(added)
				addAll(t, b, added...)
				want := slices.Concat(events[:n], added)
				never, _ := holding(t, want...)
				lookDisk(t, "a book that never had it", d, never.Bytes())
				look(t, "added", d, b, want...)
				if len(want) > 1 {
					check(t, "Cut", b.Cut(len(want)-2), nil)
					addAll(t, b, moved(9))
					want = append(want[:len(want)-2:len(want)-2], moved(9))
				}
				look(t, "cut and added again", d, b, want...)
				opened(t, "anew", d, want...)
			}
		}
	}
}

// TestCutSynced holds that what was synced ahead of a Cut stays synced, and what is added behind it isn't.
func TestCutSynced(t *testing.T) {
	d, b := holding(t, moved(), moved(1), moved(1, 2))
	check(t, "Sync", b.Sync(), nil)
	check(t, "Cut", b.Cut(2), nil)
	addAll(t, b, moved(3))
	lookSynced(t, "one of three is another", d, 29, true)
	d.Crash(0, -1, 0)
	b = opened(t, "what was synced", d, moved(), moved(1))
	addAll(t, b, moved(4))
	check(t, "Cut", b.Cut(0), nil)
	addAll(t, b, moved(5))
	lookSynced(t, "nothing is safe", d, 0, true)
	d.Crash(0, -1, 0)
	opened(t, "nothing was synced", d)
}

// TestLongest holds that the longest event that may be told is one of a book's as any other.
func TestLongest(t *testing.T) {
	long := api.Event{Kind: api.EvBegun, Machine: strings.Repeat("m", api.MaxText), Input: strings.Repeat("i", api.MaxText), Fuel: api.MaxFuel}
	d, b := holding(t, moved(1), long, long, moved(2))
	look(t, "long ones", d, b, moved(1), long, long, moved(2))
	b = opened(t, "long ones", d, moved(1), long, long, moved(2))
	check(t, "Cut", b.Cut(2), nil)
	addAll(t, b, moved(3))
	d.Crash(1<<30, -1, 0)
	opened(t, "one is cut off", d, moved(1), long, moved(3))
}

// TestMany holds a long journal: opened, cut and added to.
func TestMany(t *testing.T) {
	var events []api.Event
	for i := range 3000 {
		events = append(events, forms()[i%len(forms())], moved(i, i/2))
	}
	d, b := holding(t, events...)
	look(t, "many", d, b, events...)
	b = opened(t, "many", d, events...)
	check(t, "Cut", b.Cut(4321), nil)
	addAll(t, b, events[10:20]...)
	opened(t, "many", d, slices.Concat(events[:4321], events[10:20])...)
}
