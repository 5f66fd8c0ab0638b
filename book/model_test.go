package book_test

import (
	"bytes"
	"encoding/binary"
	"encoding/hex"
	"fmt"
	"math"
	"slices"
	"strconv"
	"strings"

	"voyage/api"
	"voyage/disk"
	"voyage/json"
	"voyage/record"
)

// The model of another make: sums are reckoned bit by bit, and where a frame ends is told anew each time out of all the events that are there.

func plainSum(b []byte) uint32 {
	sum := ^uint32(0)
	for i := range 8 * len(b) {
		unlike := sum>>31 != uint32(b[i/8]>>(7-i%8))&1
		sum <<= 1
		if unlike {
			sum ^= 0x04C11DB7
		}
	}
	return ^sum
}

func plainFrame(payload []byte) []byte {
	length := binary.BigEndian.AppendUint32(nil, uint32(len(payload)))
	head := binary.BigEndian.AppendUint32(length, plainSum(length))
	return binary.BigEndian.AppendUint32(slices.Concat(head, payload), plainSum(payload))
}

// plainScan tries at each place whether the frame of what stands there stands there.
func plainScan(b []byte) [][]byte {
	var payloads [][]byte
	for len(b) >= 12 {
		n := uint64(binary.BigEndian.Uint32(b))
		if n > 4194304 || uint64(len(b)) < n+12 || !bytes.Equal(b[:n+12], plainFrame(b[8:8+n])) {
			break
		}
		payloads = append(payloads, b[8:8+n])
		b = b[n+12:]
	}
	return payloads
}

// fileOf is the disk's bytes of a book that has these events.
func fileOf(events ...api.Event) []byte {
	var file []byte
	for _, e := range events {
		payload, err := record.Encode(e)
		if err != nil {
			panic("an event of no book: " + shown(e))
		}
		file = append(file, plainFrame(payload)...)
	}
	return file
}

// eventsIn are the events that a book finds in these bytes.
func eventsIn(file []byte) []api.Event {
	var events []api.Event
	for _, payload := range plainScan(file) {
		e, err := record.Decode(payload)
		if err != nil {
			break
		}
		events = append(events, e)
	}
	return events
}

// model is a book with a disk of its own.
type model struct {
	disk   *disk.Disk
	events []api.Event
}

// open answers whether there is a book then.
func (m *model) open() error {
	m.events = eventsIn(m.disk.Bytes())
	if end := len(fileOf(m.events...)); end < len(m.disk.Bytes()) {
		return m.disk.Cut(end)
	}
	return nil
}

func (m *model) Add(e api.Event) error {
	payload, err := record.Encode(e)
	if err != nil {
		return api.ErrEvent
	}
	if err := m.disk.Append(plainFrame(payload)); err != nil {
		return err
	}
	form, _ := record.Decode(payload)
	m.events = append(slices.Clone(m.events), form)
	return nil
}

func (m *model) Sync() error { return m.disk.Sync() }

func (m *model) Cut(n int) error {
	switch {
	case n < 0 || len(m.events) < n:
		return api.ErrArg
	case len(m.events) == n:
		return nil
	}
	if err := m.disk.Cut(len(fileOf(m.events[:n]...))); err != nil {
		return err
	}
	m.events = m.events[:n]
	return nil
}

func (m *model) Len() int { return len(m.events) }

// alike tells whether two events are told alike, field by field; a list without elements may be nil or not.
func alike(a, b api.Event) bool {
	return a.Kind == b.Kind && slices.Equal(a.Place, b.Place) && a.Time == b.Time && a.Machine == b.Machine && a.Input == b.Input && a.Fuel == b.Fuel &&
		a.Outcome.Fine == b.Outcome.Fine && a.Outcome.Error == b.Outcome.Error && a.Outcome.Cause == b.Outcome.Cause && alikeValues(a.Outcome.Value, b.Outcome.Value)
}

func alikeValues(a, b api.Value) bool {
	sameField := func(a, b api.Field) bool { return a.Name == b.Name && alikeValues(a.Value, b.Value) }
	return a.Kind == b.Kind && a.Truth == b.Truth && a.Num == b.Num && a.Text == b.Text && slices.EqualFunc(a.List, b.List, alikeValues) && slices.EqualFunc(a.Fields, b.Fields, sameField)
}

func alikeLists(a, b []api.Event) bool { return slices.EqualFunc(a, b, alike) }

func short(b []byte) string {
	if len(b) <= 200 {
		return fmt.Sprintf("% x", b)
	}
	return fmt.Sprintf("% x .. (%d bytes)", b[:200], len(b))
}

func shown(events ...api.Event) string {
	cut := func(s string) string {
		if len(s) > 40 {
			return fmt.Sprintf("%q.. (%d bytes)", s[:40], len(s))
		}
		return strconv.Quote(s)
	}
	texts := []string{}
	for _, e := range events[:min(len(events), 20)] {
		texts = append(texts, fmt.Sprintf("{kind %d, place %v, time %d, machine %s, input %s, fuel %d, outcome %v %s %s %s}", e.Kind, e.Place, e.Time, cut(e.Machine), cut(e.Input), e.Fuel, e.Outcome.Fine, cut(json.Print(e.Outcome.Value)), cut(e.Outcome.Error), cut(e.Outcome.Cause)))
	}
	return fmt.Sprintf("%d events: %s", len(events), strings.Join(texts, ", "))
}

func unhex(text string) []byte {
	b, err := hex.DecodeString(strings.ReplaceAll(text, " ", ""))
	if err != nil {
		panic(err)
	}
	return b
}

func moved(place ...int) api.Event { return api.Event{Kind: api.EvMoved, Place: place} }

func number(digits string) api.Value {
	return api.Value{Kind: api.Number, Num: api.Dec{Digits: digits}}
}

func list(elements ...api.Value) api.Value { return api.Value{Kind: api.List, List: elements} }

// entry is an event as it may be handed in, its one form, and its record.
type entry struct {
	in, form api.Event
	record   string
}

// entries are events of each of the seven kinds. What is handed in is told freely, with something in the fields that aren't its parts: most of it might not be told, if it were a part.
func entries() []entry {
	odd := api.Outcome{Fine: true, Value: list(number("7")), Error: "\xff", Cause: "x"}
	free := api.Value{Kind: api.List, Truth: true, Text: "x", List: []api.Value{{Kind: api.Number, Num: api.Dec{Digits: "0x10", Exp: -1}, Text: "y"}}}
	return []entry{
		{api.Event{Kind: api.EvBegun, Machine: "{}", Input: "1", Fuel: 65536, Place: []int{-1}, Time: -1, Outcome: odd},
			api.Event{Kind: api.EvBegun, Machine: "{}", Input: "1", Fuel: 65536}, "01 02 7b 7d 01 31 80 80 04"},
		{api.Event{Kind: api.EvMoved, Time: -1, Outcome: odd, Machine: "m", Input: "i", Fuel: -1}, moved(), "02 00"},
		{api.Event{Kind: api.EvAsked, Place: []int{1, 1, 0}, Time: math.MaxInt64, Outcome: odd, Machine: "m"},
			api.Event{Kind: api.EvAsked, Place: []int{1, 1, 0}}, "03 03 01 01 00"},
		{api.Event{Kind: api.EvTold, Outcome: api.Outcome{Fine: true, Value: free}, Time: -7, Fuel: 3},
			api.Event{Kind: api.EvTold, Outcome: api.Outcome{Fine: true, Value: list(number("1"))}}, "04 00 01 03 5b 31 5d"},
		{api.Event{Kind: api.EvTold, Place: []int{2}, Outcome: api.Outcome{Value: api.Value{Kind: 77, Text: "x"}, Error: "e"}, Input: "i"},
			api.Event{Kind: api.EvTold, Place: []int{2}, Outcome: api.Outcome{Error: "e"}}, "04 01 02 00 01 65 00"},
		{api.Event{Kind: api.EvSet, Time: 12, Machine: "x", Outcome: odd}, api.Event{Kind: api.EvSet, Time: 12}, "05 00 0c"},
		{api.Event{Kind: api.EvFired, Place: []int{math.MaxInt32}, Time: 1<<44 - 1, Fuel: -9},
			api.Event{Kind: api.EvFired, Place: []int{math.MaxInt32}, Time: 1<<44 - 1}, "06 01 ff ff ff ff 07 ff ff ff ff ff ff 03"},
		{api.Event{Kind: api.EvJoined, Place: []int{300}, Time: -1, Input: "\xff"}, api.Event{Kind: api.EvJoined, Place: []int{300}}, "07 01 ac 02"},
	}
}

// forms are the one forms of entries.
func forms() []api.Event {
	var events []api.Event
	for _, x := range entries() {
		events = append(events, x.form)
	}
	return events
}

// untellable are events that no book has.
func untellable() []api.Event {
	long := strings.Repeat("x", api.MaxText+1)
	return []api.Event{
		{}, {Kind: 8}, {Kind: 9}, {Kind: -1}, {Kind: math.MaxInt},
		moved(-1), moved(1, math.MaxInt32+1), moved(make([]int, 193)...),
		{Kind: api.EvAsked, Place: []int{-1}}, {Kind: api.EvJoined, Place: []int{-1}},
		{Kind: api.EvSet, Time: -1}, {Kind: api.EvFired, Time: api.MaxTime + 1},
		{Kind: api.EvBegun}, {Kind: api.EvBegun, Fuel: api.MaxFuel + 1}, {Kind: api.EvBegun, Fuel: 1, Machine: long}, {Kind: api.EvBegun, Fuel: 1, Input: long},
		{Kind: api.EvTold, Outcome: api.Outcome{Fine: true, Error: "e"}}, {Kind: api.EvTold, Outcome: api.Outcome{Value: number("1")}},
		{Kind: api.EvTold, Outcome: api.Outcome{Error: "\xff"}}, {Kind: api.EvTold, Outcome: api.Outcome{Cause: long}},
	}
}
