package disk_test

import (
	"bytes"
	"fmt"
	"math"
	"strings"
	"testing"

	"voyage/api"
	"voyage/disk"
)

// file is what a disk and its model both are.
type file interface {
	Append(b []byte) error
	Sync() error
	Cut(n int) error
	Bytes() []byte
	Synced() int
	Arm(n int)
	Up() bool
	Crash(keep, at int, turn uint32)
}

// cell is a byte that knows whether it is safe.
type cell struct {
	value byte
	safe  bool
}

// model is the disk of another make: each byte knows whether it is safe, bits are letters, and of an armed one all answers to come stand in a list.
type model struct {
	cells []cell
	fates []error // of the next acts; behind them all are nil
	off   bool
}

func (m *model) act() error {
	if len(m.fates) == 0 {
		return nil
	}
	err := m.fates[0]
	m.fates = m.fates[1:]
	m.off = err != nil
	return err
}

func (m *model) Append(b []byte) error {
	if m.off {
		return api.ErrDown
	}
	for i := range b {
		m.cells = append(m.cells, cell{value: b[i]})
	}
	return m.act()
}

func (m *model) Sync() error {
	if m.off || m.act() != nil {
		return api.ErrDown
	}
	for i := range m.cells {
		m.cells[i].safe = true
	}
	return nil
}

func (m *model) Cut(n int) error {
	switch {
	case m.off:
		return api.ErrDown
	case n < 0 || len(m.cells) < n:
		return api.ErrArg
	case m.act() != nil:
		return api.ErrDown
	}
	m.cells = m.cells[:n]
	return nil
}

func (m *model) Bytes() []byte {
	var b []byte
	for _, c := range m.cells {
		b = append(b, c.value)
	}
	return b
}

func (m *model) Synced() int {
	n := 0
	for _, c := range m.cells {
		if c.safe {
			n++
		}
	}
	return n
}

func (m *model) Arm(n int) {
	m.fates = nil
	if n < 1 || n > 1000 { // no row of calls here has more acts
		return
	}
	m.fates = make([]error, n)
	m.fates[n-1] = api.ErrDown
}

func (m *model) Up() bool { return !m.off }

func (m *model) Crash(keep, at int, turn uint32) {
	var left []cell
	var tail strings.Builder
	for _, c := range m.cells {
		if c.safe {
			left = append(left, c)
		} else if keep > 0 {
			keep--
			fmt.Fprintf(&tail, "%08b", c.value)
		}
	}
	bits := []byte(tail.String())
	for i, letter := range fmt.Sprintf("%032b", turn) {
		if at >= 0 && at < len(bits)-i && letter == '1' {
			bits[at+i] ^= '0' ^ '1'
		}
	}
	for ; len(bits) > 0; bits = bits[8:] {
		c := cell{safe: true}
		fmt.Sscanf(string(bits[:8]), "%b", &c.value)
		left = append(left, c)
	}
	*m = model{cells: left}
}

// step is a call, with its arguments.
type step struct {
	name string
	do   func(f file) error
}

func appends(b ...byte) step {
	return step{fmt.Sprintf("Append(% X)", b), func(f file) error { return f.Append(b) }}
}

func syncs() step { return step{"Sync", file.Sync} }

func cuts(n int) step {
	return step{fmt.Sprintf("Cut(%d)", n), func(f file) error { return f.Cut(n) }}
}

// cutsOff cuts so many bytes off, whatever the file is; below 0: so many more are asked for than there are.
func cutsOff(n int) step {
	return step{fmt.Sprintf("Cut(all - %d)", n), func(f file) error { return f.Cut(len(f.Bytes()) - n) }}
}

func arms(n int) step {
	return step{fmt.Sprintf("Arm(%d)", n), func(f file) error { f.Arm(n); return nil }}
}

func crashes(keep, at int, turn uint32) step {
	return step{fmt.Sprintf("Crash(%d, %d, %08X)", keep, at, turn), func(f file) error { f.Crash(keep, at, turn); return nil }}
}

func told(row []step) string {
	names := []string{}
	for _, s := range row {
		names = append(names, s.name)
	}
	return strings.Join(names, ", ")
}

// pair is a disk with its model.
type pair struct {
	disk  *disk.Disk
	model *model
	row   []step
}

func newPair() *pair { return &pair{disk: disk.New(), model: &model{}} }

// do makes the same call of both and holds what can be seen of them against each other.
func (p *pair) do(t *testing.T, s step) {
	t.Helper()
	p.row = append(p.row, s)
	if got, want := s.do(p.disk), s.do(p.model); got != want {
		t.Fatalf("%s: %v, not %v", told(p.row), got, want)
	}
	if got, want := p.disk.Bytes(), p.model.Bytes(); !bytes.Equal(got, want) {
		t.Fatalf("%s: Bytes: % X, not % X", told(p.row), got, want)
	}
	if got, want := p.disk.Synced(), p.model.Synced(); got != want {
		t.Fatalf("%s: Synced: %d, not %d", told(p.row), got, want)
	}
	if got, want := p.disk.Up(), p.model.Up(); got != want {
		t.Fatalf("%s: Up: %v, not %v", told(p.row), got, want)
	}
}

func least() []int { return []int{-1, -2, -8, math.MinInt, math.MinInt + 1} }

func greatest() []int { return []int{math.MaxInt, math.MaxInt - 1, math.MaxInt - 31, math.MaxInt - 32} }
