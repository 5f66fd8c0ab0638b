package disk_test

import (
	"bytes"
	"math"
	"testing"

	"voyage/api"
	"voyage/disk"
)

// roomy is bytes with spare room behind them, of other bytes.
func roomy(b ...byte) []byte {
	room := append(bytes.Clone(b), bytes.Repeat([]byte{0xEE}, 64)...)
	return room[:len(b)]
}

// all is bytes with all their spare room.
func all(b []byte) []byte { return b[:cap(b)] }

func fill(b []byte, with byte) {
	for i := range b {
		b[i] = with
	}
}

// TestHandedInStays holds P12.8: nothing that is done later reaches bytes that were handed in, nor their spare room.
func TestHandedInStays(t *testing.T) {
	for _, armed := range []int{0, 1, 2} {
		d := disk.New()
		d.Arm(armed)
		handed := roomy(1, 2, 3, 4)
		before := bytes.Clone(all(handed))
		d.Append(handed)
		for _, s := range []step{appends(9, 9), syncs(), cuts(3), appends(8), crashes(9, 0, math.MaxUint32), appends(7, 7), cuts(1), appends(6, 6, 6), crashes(2, 3, math.MaxUint32), cuts(0), appends(5)} {
			s.do(d)
			if !bytes.Equal(all(handed), before) {
				t.Fatalf("%s changes what was handed in: % X", s.name, all(handed))
			}
		}
	}
}

// TestHandedInIsNotKept holds P12.8: bytes that were handed in may be changed later, spare room too; also those of the Append in which the power goes.
func TestHandedInIsNotKept(t *testing.T) {
	d := disk.New()
	for _, handed := range [][]byte{roomy(1, 2), roomy(3), roomy(4, 5)} {
		check(t, "Append", d.Append(handed), nil)
		fill(all(handed), 0xDD)
	}
	look(t, "appended", d, "01 02 03 04 05", 0, true)
	check(t, "Sync", d.Sync(), nil)
	check(t, "Cut", d.Cut(0), nil)
	handed := roomy(6, 7)
	check(t, "Append", d.Append(handed), nil)
	fill(all(handed), 0xDD)
	look(t, "appended to nothing", d, "06 07", 0, true)
	handed = roomy(8)
	d.Arm(1)
	check(t, "Append", d.Append(handed), api.ErrDown)
	fill(all(handed), 0xDD)
	look(t, "the last act", d, "06 07 08", 0, false)
}

// TestAnsweredIsNew holds P12.8: what Bytes answered may be changed, spare room too, and what is appended to it lies nowhere else.
func TestAnsweredIsNew(t *testing.T) {
	d := standing(t, "01 02", "03")
	for _, do := range []func(){
		func() {},
		func() { check(t, "Cut", d.Cut(3), nil) },
		func() { d.Arm(1); check(t, "Sync", d.Sync(), api.ErrDown) },
		func() { d.Crash(1, -1, 0) },
	} {
		do()
		one, two := d.Bytes(), d.Bytes()
		fill(all(one), 0xDD)
		_ = append(one, 0xCC, 0xCC)
		if !bytes.Equal(two, []byte{1, 2, 3}) {
			t.Errorf("two answers share memory: % X", two)
		}
		look(t, "an answer was changed", d, "01 02 03", d.Synced(), d.Up())
	}
	check(t, "Append", d.Append([]byte{4}), nil)
	look(t, "appended", d, "01 02 03 04", 3, true)
}

// TestAnsweredStays holds P12.8: an answer is as it was, whatever is done to the disk later, its spare room too.
func TestAnsweredStays(t *testing.T) {
	d := standing(t, "01 02", "03 04 05")
	for _, s := range []step{appends(9, 9), crashes(4, 0, math.MaxUint32), appends(8, 8), cuts(1), appends(7, 7), syncs(), appends(6, 6), crashes(1, 2, math.MaxUint32), cuts(0), appends(5, 5, 5, 5, 5), crashes(0, 0, 0)} {
		answer := d.Bytes()
		before := bytes.Clone(all(answer))
		check(t, s.name, s.do(d), nil)
		check(t, "Append", d.Append([]byte{0xEE}), nil)
		if !bytes.Equal(all(answer), before) {
			t.Fatalf("%s changes what was answered: % X", s.name, all(answer))
		}
	}
}

// TestAnsweredHandedIn holds that a disk's own answer, or another's, can be handed in as any bytes.
func TestAnsweredHandedIn(t *testing.T) {
	d, other := standing(t, "01", "02"), disk.New()
	for _, to := range []*disk.Disk{d, other} {
		answer := d.Bytes()
		check(t, "Append", to.Append(answer), nil)
		fill(all(answer), 0xDD)
	}
	look(t, "its own", d, "01 02 01 02", 1, true)
	look(t, "another's", other, "01 02 01 02", 0, true)
	other.Crash(4, 0, math.MaxUint32)
	look(t, "its own", d, "01 02 01 02", 1, true)
	look(t, "turned", other, "FE FD FE FD", 4, true)
}

// TestEmptyAnswer holds that the answer of an empty disk is empty.
func TestEmptyAnswer(t *testing.T) {
	d := disk.New()
	_ = append(d.Bytes(), 1)
	look(t, "new", d, "", 0, true)
	check(t, "Append", d.Append([]byte{2}), nil)
	check(t, "Cut", d.Cut(0), nil)
	answer := d.Bytes()
	fill(all(answer), 0xDD)
	if len(answer) != 0 {
		t.Errorf("% X", answer)
	}
	check(t, "Append", d.Append([]byte{3}), nil)
	look(t, "appended", d, "03", 0, true)
}
