package disk_test

import (
	"bytes"
	"encoding/hex"
	"fmt"
	"math"
	"slices"
	"strings"
	"testing"

	"voyage/api"
	"voyage/disk"
)

func hexed(t *testing.T, text string) []byte {
	t.Helper()
	b, err := hex.DecodeString(strings.ReplaceAll(text, " ", ""))
	if err != nil {
		t.Fatal(err)
	}
	return b
}

// look holds P12.2: how a disk stands.
func look(t *testing.T, what string, d *disk.Disk, file string, synced int, up bool) {
	t.Helper()
	if got := d.Bytes(); !bytes.Equal(got, hexed(t, file)) {
		t.Errorf("%s: Bytes: % X, not %s", what, got, file)
	}
	if got := d.Synced(); got != synced {
		t.Errorf("%s: Synced: %d, not %d", what, got, synced)
	}
	if got := d.Up(); got != up {
		t.Errorf("%s: Up: %v, not %v", what, got, up)
	}
}

func check(t *testing.T, what string, got, want error) {
	t.Helper()
	if got != want {
		t.Errorf("%s: %v, not %v", what, got, want)
	}
}

// standing is a disk with such safe bytes and such a tail.
func standing(t *testing.T, safe, tail string) *disk.Disk {
	t.Helper()
	d := disk.New()
	check(t, "Append", d.Append(hexed(t, safe)), nil)
	check(t, "Sync", d.Sync(), nil)
	check(t, "Append", d.Append(hexed(t, tail)), nil)
	return d
}

// TestExamples holds the chapter's examples, one behind the other.
func TestExamples(t *testing.T) {
	d := disk.New()
	check(t, "Append(01 02)", d.Append([]byte{1, 2}), nil)
	look(t, "appended", d, "01 02", 0, true)
	check(t, "Sync", d.Sync(), nil)
	look(t, "synced", d, "01 02", 2, true)
	check(t, "Append(03 04 05)", d.Append([]byte{3, 4, 5}), nil)
	look(t, "appended", d, "01 02 03 04 05", 2, true)

	check(t, "Cut(6)", d.Cut(6), api.ErrArg)
	check(t, "Cut(4)", d.Cut(4), nil)
	look(t, "Cut(4)", d, "01 02 03 04", 2, true)
	check(t, "Cut(1)", d.Cut(1), nil)
	look(t, "Cut(1)", d, "01", 1, true)

	check(t, "Append(0F FF 00)", d.Append([]byte{0x0F, 0xFF, 0}), nil)
	d.Crash(2, 4, 0xFFFFFFFF)
	look(t, "Crash(2, 4, FFFFFFFF)", d, "01 00 00", 3, true)

	check(t, "Append(AA)", d.Append([]byte{0xAA}), nil)
	d.Crash(9, -1, 0xFFFFFFFF)
	look(t, "Crash(9, -1, FFFFFFFF)", d, "01 00 00 AA", 4, true)
	check(t, "Append(80)", d.Append([]byte{0x80}), nil)
	d.Crash(1, 0, 0x80000001)
	look(t, "Crash(1, 0, 80000001)", d, "01 00 00 AA 00", 5, true)

	d.Arm(2)
	check(t, "Append(07)", d.Append([]byte{7}), nil)
	check(t, "Sync", d.Sync(), api.ErrDown)
	look(t, "down", d, "01 00 00 AA 00 07", 5, false)
	check(t, "Append(08)", d.Append([]byte{8}), api.ErrDown)
	look(t, "Append(08)", d, "01 00 00 AA 00 07", 5, false)

	d.Crash(0, 0, 0)
	look(t, "Crash(0, 0, 0)", d, "01 00 00 AA 00", 5, true)
	d.Arm(1)
	check(t, "Append(09)", d.Append([]byte{9}), api.ErrDown)
	look(t, "Append(09)", d, "01 00 00 AA 00 09", 5, false)
	d.Crash(1, -1, 0)
	look(t, "Crash(1, -1, 0)", d, "01 00 00 AA 00 09", 6, true)

	d.Arm(1)
	check(t, "Cut(0)", d.Cut(0), api.ErrDown)
	look(t, "Cut(0)", d, "01 00 00 AA 00 09", 6, false)
	d.Crash(0, 0, 0)
	d.Arm(1)
	d.Arm(0)
	check(t, "Sync", d.Sync(), nil)
	look(t, "Sync", d, "01 00 00 AA 00 09", 6, true)
}

// TestNew holds P12.1: no act of a new one is that in which the power goes.
func TestNew(t *testing.T) {
	look(t, "new", disk.New(), "", 0, true)
	d := disk.New()
	for i := range 1000 {
		check(t, "Append", d.Append([]byte{byte(i)}), nil)
		check(t, "Sync", d.Sync(), nil)
		check(t, "Cut", d.Cut(i/2), nil)
		check(t, "Cut", d.Cut(0), nil)
		check(t, "Append", d.Append(make([]byte, i)), nil)
	}
	d = disk.New()
	check(t, "Sync of nothing", d.Sync(), nil)
	check(t, "Cut of nothing", d.Cut(0), nil)
	check(t, "Cut(1) of nothing", d.Cut(1), api.ErrArg)
	d.Crash(5, 0, math.MaxUint32)
	look(t, "a crash of nothing", d, "", 0, true)
}

// TestAppend holds P12.3: behind the end, in the tail, also of nothing, also where all ahead of it is safe.
func TestAppend(t *testing.T) {
	d := disk.New()
	for _, x := range []struct {
		b    []byte
		file string
	}{
		{nil, ""},
		{[]byte{}, ""},
		{[]byte{0}, "00"},
		{nil, "00"},
		{[]byte{1, 0xFF}, "00 01 FF"},
		{[]byte{1, 0xFF}, "00 01 FF 01 FF"},
		{[]byte{}, "00 01 FF 01 FF"},
	} {
		check(t, "Append", d.Append(x.b), nil)
		look(t, fmt.Sprintf("Append(% X)", x.b), d, x.file, 0, true)
	}
	check(t, "Sync", d.Sync(), nil)
	check(t, "Append", d.Append([]byte{9}), nil)
	look(t, "behind safe ones", d, "00 01 FF 01 FF 09", 5, true)
	check(t, "Append", d.Append(nil), nil)
	look(t, "nothing", d, "00 01 FF 01 FF 09", 5, true)
}

// TestAppendLong holds that bytes beyond any first room of the disk's are there as well.
func TestAppendLong(t *testing.T) {
	d, all := disk.New(), []byte{}
	for n := 1; n < 1<<20; n = n*2 + 1 {
		b := bytes.Repeat([]byte{byte(n), byte(n >> 8), byte(n >> 16)}, n)[:n]
		all = append(all, b...)
		check(t, "Append", d.Append(b), nil)
		if n%3 == 0 {
			check(t, "Sync", d.Sync(), nil)
		}
	}
	if !bytes.Equal(d.Bytes(), all) {
		t.Error("not what was appended")
	}
}

// TestSync holds P12.4: all bytes are safe, once and again.
func TestSync(t *testing.T) {
	d := standing(t, "01 02", "03 04 05")
	look(t, "ahead", d, "01 02 03 04 05", 2, true)
	check(t, "Sync", d.Sync(), nil)
	look(t, "synced", d, "01 02 03 04 05", 5, true)
	check(t, "Sync", d.Sync(), nil)
	look(t, "synced twice", d, "01 02 03 04 05", 5, true)
	d.Crash(0, 0, math.MaxUint32)
	look(t, "a crash behind it", d, "01 02 03 04 05", 5, true)
}

// TestCut holds P12.5: within the safe bytes, at their end, within the tail, all, one more, none, and below none.
func TestCut(t *testing.T) {
	for n, want := range []struct {
		file   string
		synced int
	}{{"", 0}, {"01", 1}, {"01 02", 2}, {"01 02 03", 2}, {"01 02 03 04", 2}, {"01 02 03 04 05", 2}} {
		d := standing(t, "01 02", "03 04 05")
		check(t, "Cut", d.Cut(n), nil)
		look(t, fmt.Sprintf("Cut(%d)", n), d, want.file, want.synced, true)
		check(t, "Append", d.Append([]byte{0xEE}), nil)
		look(t, fmt.Sprintf("Cut(%d) and Append", n), d, want.file+"EE", want.synced, true)
		d.Crash(0, -1, 0)
		look(t, fmt.Sprintf("Cut(%d), Append and Crash", n), d, want.file[:max(0, 3*want.synced-1)], want.synced, true)
	}
	for _, n := range slices.Concat(least(), greatest(), []int{6, 7, 1000}) {
		d := standing(t, "01 02", "03 04 05")
		check(t, fmt.Sprintf("Cut(%d)", n), d.Cut(n), api.ErrArg)
		look(t, fmt.Sprintf("Cut(%d)", n), d, "01 02 03 04 05", 2, true)
	}
}

// TestCutForgets holds that bytes that were cut off don't come again, whatever is appended in their place.
func TestCutForgets(t *testing.T) {
	d := standing(t, "01 02 03 04", "05 06")
	check(t, "Cut", d.Cut(2), nil)
	check(t, "Cut of more than is left", d.Cut(3), api.ErrArg)
	check(t, "Append", d.Append([]byte{7}), nil)
	look(t, "appended", d, "01 02 07", 2, true)
	d.Crash(9, -1, 0)
	look(t, "crashed", d, "01 02 07", 3, true)
	check(t, "Append", d.Append([]byte{8, 9}), nil)
	look(t, "appended", d, "01 02 07 08 09", 3, true)
}

// TestArm holds P12.6: which act the power goes in, of each sort, and what is done of it.
func TestArm(t *testing.T) {
	last := []struct {
		name   string
		do     func(d *disk.Disk) error
		file   string
		synced int
	}{
		{"Append", func(d *disk.Disk) error { return d.Append([]byte{0xEE, 0xEF}) }, "01 02 03 EE EF", 2},
		{"Append of nothing", func(d *disk.Disk) error { return d.Append(nil) }, "01 02 03", 2},
		{"Sync", (*disk.Disk).Sync, "01 02 03", 2},
		{"Cut(0)", func(d *disk.Disk) error { return d.Cut(0) }, "01 02 03", 2},
		{"Cut(1)", func(d *disk.Disk) error { return d.Cut(1) }, "01 02 03", 2},
		{"Cut(2)", func(d *disk.Disk) error { return d.Cut(2) }, "01 02 03", 2},
		{"Cut(3)", func(d *disk.Disk) error { return d.Cut(3) }, "01 02 03", 2},
	}
	for _, x := range last {
		for n := 1; n < 12; n++ {
			d := standing(t, "01 02", "03")
			d.Arm(n)
			for i := 1; i < n; i++ {
				check(t, "an act ahead of it", d.Append(nil), nil)
				look(t, "an act ahead of it", d, "01 02 03", 2, true)
			}
			check(t, x.name, x.do(d), api.ErrDown)
			look(t, fmt.Sprintf("%s, the act %d", x.name, n), d, x.file, x.synced, false)
		}
	}
}

// TestArmEverySort holds that an Append, a Sync and a Cut count alike, and that those ahead of the last are done.
func TestArmEverySort(t *testing.T) {
	d := disk.New()
	d.Arm(4)
	check(t, "Append", d.Append([]byte{1, 2, 3}), nil)
	look(t, "Append", d, "01 02 03", 0, true)
	check(t, "Sync", d.Sync(), nil)
	look(t, "Sync", d, "01 02 03", 3, true)
	check(t, "Cut", d.Cut(2), nil)
	look(t, "Cut", d, "01 02", 2, true)
	check(t, "Append", d.Append([]byte{4}), api.ErrDown)
	look(t, "the last", d, "01 02 04", 2, false)
}

// TestArmAnew holds that the last Arm counts, from itself on.
func TestArmAnew(t *testing.T) {
	for _, x := range []struct {
		first, acts, second, more int // the power goes in the act behind so many more; below 0: in none
	}{
		{1, 0, 3, 2}, {3, 0, 1, 0}, {3, 2, 3, 2}, {2, 1, 2, 1}, {5, 3, 1, 0}, {1, 0, math.MaxInt, -1}, {math.MaxInt, 2, 2, 1},
		{1, 0, 0, -1}, {1, 0, -1, -1}, {2, 1, 0, -1}, {2, 1, -7, -1}, {3, 1, math.MinInt, -1}, {0, 1, 2, 1}, {-1, 1, 1, 0}, {math.MinInt, 3, 1, 0},
	} {
		d := disk.New()
		d.Arm(x.first)
		for range x.acts {
			check(t, "behind the first", d.Sync(), nil)
		}
		d.Arm(x.second)
		for i := range 20 {
			want := error(nil)
			if x.more >= 0 && i >= x.more {
				want = api.ErrDown
			}
			check(t, fmt.Sprintf("%+v, act %d", x, i), d.Sync(), want)
		}
	}
}

// TestRefusedIsNoAct holds that a Cut that ErrArg refuses does not count, nor does what isn't an act at all.
func TestRefusedIsNoAct(t *testing.T) {
	d := standing(t, "01 02", "03")
	d.Arm(2)
	for range 5 {
		check(t, "Cut(4)", d.Cut(4), api.ErrArg)
		check(t, "Cut(-1)", d.Cut(-1), api.ErrArg)
		look(t, "refused", d, "01 02 03", 2, true)
	}
	check(t, "Cut(3)", d.Cut(3), nil)
	for range 5 {
		check(t, "Cut(4)", d.Cut(4), api.ErrArg)
		look(t, "refused", d, "01 02 03", 2, true)
	}
	check(t, "Cut(0)", d.Cut(0), api.ErrDown)
	look(t, "the second", d, "01 02 03", 2, false)
	check(t, "Cut(4) without power", d.Cut(4), api.ErrDown)
	check(t, "Cut(-1) without power", d.Cut(-1), api.ErrDown)
}

// TestWhileOff holds P12.10: nothing changes, but by Crash, and Arm neither turns the power on nor lasts beyond a Crash.
func TestWhileOff(t *testing.T) {
	d := standing(t, "01 02", "03 04")
	d.Arm(1)
	check(t, "Append", d.Append([]byte{5}), api.ErrDown)
	for _, n := range []int{1, 0, 3, -1, math.MaxInt, 1} {
		check(t, "Append", d.Append([]byte{6}), api.ErrDown)
		check(t, "Append of nothing", d.Append(nil), api.ErrDown)
		check(t, "Sync", d.Sync(), api.ErrDown)
		for _, cut := range []int{0, 1, 2, 3, 5, 6, -1, math.MinInt, math.MaxInt} {
			check(t, "Cut", d.Cut(cut), api.ErrDown)
		}
		look(t, "off", d, "01 02 03 04 05", 2, false)
		d.Arm(n)
		look(t, "armed", d, "01 02 03 04 05", 2, false)
	}
	d.Crash(2, -1, 0)
	look(t, "on again", d, "01 02 03 04", 4, true)
	for range 5 {
		check(t, "Sync", d.Sync(), nil)
	}
}

// TestCrashKeeps holds P12.7: how many bytes of the tail stay, the power on or off.
func TestCrashKeeps(t *testing.T) {
	for keep, want := range map[int]string{
		math.MinInt: "", -1: "", 0: "", 1: "03", 2: "03 04", 3: "03 04 05", 4: "03 04 05", 5: "03 04 05", 100: "03 04 05", math.MaxInt: "03 04 05",
	} {
		for _, off := range []bool{false, true} {
			d := standing(t, "01 02", "03 04 05")
			if off {
				d.Arm(1)
				check(t, "Sync", d.Sync(), api.ErrDown)
			}
			d.Crash(keep, -1, math.MaxUint32)
			file := hexed(t, "01 02"+want)
			look(t, fmt.Sprintf("Crash(%d), off %v", keep, off), d, hex.EncodeToString(file), len(file), true)
		}
	}
}

// TestCrashWithoutTail holds that nothing is turned where nothing wasn't safe.
func TestCrashWithoutTail(t *testing.T) {
	for _, at := range []int{-1, 0, 5, 16, math.MaxInt} {
		d := standing(t, "01 02", "")
		d.Crash(9, at, math.MaxUint32)
		look(t, "no tail", d, "01 02", 2, true)
	}
}

// TestCrashTurns holds P12.7: which bits are turned. Those that stay are 24, all 0 at first, behind safe ones; one byte of the tail goes.
func TestCrashTurns(t *testing.T) {
	for _, x := range []struct {
		at   int
		turn uint32
		want string
	}{
		{-1, 0xFFFFFFFF, "00 00 00"},
		{-8, 0xFFFFFFFF, "00 00 00"},
		{-31, 0xFFFFFFFF, "00 00 00"},
		{math.MinInt, 0xFFFFFFFF, "00 00 00"},
		{0, 0, "00 00 00"},
		{0, 0x80000000, "80 00 00"},
		{0, 0x00000001, "00 00 00"},
		{0, 0x00000100, "00 00 01"},
		{0, 0x00000080, "00 00 00"},
		{0, 0x12345678, "12 34 56"},
		{0, 0xFFFFFFFF, "FF FF FF"},
		{1, 0xFFFFFFFF, "7F FF FF"},
		{4, 0x12345678, "01 23 45"},
		{7, 0x80000000, "01 00 00"},
		{7, 0xC0000000, "01 80 00"},
		{8, 0x12345678, "00 12 34"},
		{8, 0x80000000, "00 80 00"},
		{12, 0xFFFFFFFF, "00 0F FF"},
		{16, 0x80FFFFFF, "00 00 80"},
		{22, 0x80000000, "00 00 02"},
		{23, 0x80000000, "00 00 01"},
		{23, 0x7FFFFFFF, "00 00 00"},
		{23, 0xFFFFFFFF, "00 00 01"},
		{24, 0xFFFFFFFF, "00 00 00"},
		{25, 0xFFFFFFFF, "00 00 00"},
		{32, 0xFFFFFFFF, "00 00 00"},
		{1 << 20, 0xFFFFFFFF, "00 00 00"},
		{math.MaxInt, 0xFFFFFFFF, "00 00 00"},
		{math.MaxInt - 7, 0xFFFFFFFF, "00 00 00"},
		{math.MaxInt - 31, 0xFFFFFFFF, "00 00 00"},
	} {
		for _, off := range []bool{false, true} {
			d := standing(t, "00 00", "00 00 00 00")
			if off {
				d.Arm(1)
				check(t, "Cut", d.Cut(1), api.ErrDown)
			}
			d.Crash(3, x.at, x.turn)
			look(t, fmt.Sprintf("Crash(3, %d, %08X), off %v", x.at, x.turn, off), d, "00 00"+x.want, 5, true)
		}
	}
}

// TestCrashTurnsBack holds that bits are turned, not set.
func TestCrashTurnsBack(t *testing.T) {
	d := standing(t, "FF", "FF A5 0F F0 3C FF")
	d.Crash(6, 6, 0xFFFFFFFF)
	look(t, "turned", d, "FF FC 5A F0 0F C0 FF", 7, true)
}

// TestCrashOfArmed holds P12.7: a disk isn't armed behind a Crash, whether or not the power had gone.
func TestCrashOfArmed(t *testing.T) {
	for _, n := range []int{1, 2, 3} {
		d := standing(t, "01", "02")
		d.Arm(n)
		d.Crash(1, -1, 0)
		look(t, "crashed", d, "01 02", 2, true)
		for range 5 {
			check(t, "Sync", d.Sync(), nil)
		}
	}
}
