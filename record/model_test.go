package record_test

import (
	"encoding/binary"
	"fmt"
	"slices"
	"strconv"
	"strings"
	"unicode/utf8"

	"voyage/api"
	"voyage/json"
)

// The model of another make: counts are rows of letters 0 and 1; a record is read freely, by the library's numbers, and holds just if what was read is told by the same bytes again.

// modelParts are the letters of each kind's parts.
func modelParts(kind int) string {
	return map[int]string{1: "MIF", 2: "P", 3: "P", 4: "PO", 5: "PT", 6: "PT", 7: "P"}[kind]
}

func modelCount(n int64) string {
	digits := strconv.FormatInt(n, 2)
	digits = strings.Repeat("0", (7-len(digits)%7)%7) + digits
	b := ""
	for mark := "0"; digits != ""; mark = "1" { // from the highest group on, which comes last
		group, _ := strconv.ParseUint(mark+digits[:7], 2, 8)
		b, digits = string([]byte{byte(group)})+b, digits[7:]
	}
	return b
}

func modelText(text string) string { return modelCount(int64(len(text))) + text }

func within(n, least, most int64) bool { return least <= n && n <= most }

// modelTellable goes by the chapter's list, part by part.
func modelTellable(e api.Event) bool {
	may := modelParts(e.Kind) != ""
	for _, part := range modelParts(e.Kind) {
		switch part {
		case 'M':
			may = may && len(e.Machine) <= 1048576
		case 'I':
			may = may && len(e.Input) <= 1048576
		case 'F':
			may = may && within(int64(e.Fuel), 1, 65536)
		case 'P':
			may = may && len(e.Place) <= 192 && !slices.ContainsFunc(e.Place, func(n int) bool { return !within(int64(n), 0, 2147483647) })
		case 'T':
			may = may && within(e.Time, 0, 1125899906842624)
		case 'O':
			may = may && modelOutcome(e.Outcome)
		}
	}
	return may
}

func modelOutcome(o api.Outcome) bool {
	text := json.Print(o.Value)
	if o.Fine {
		return o.Error+o.Cause == "" && len(text) <= 1048576 && json.Depth(o.Value) <= 64
	}
	return text == "null" && utf8.ValidString(o.Error) && utf8.ValidString(o.Cause) && len(o.Error+o.Cause) <= 1048576
}

// modelBytes are an event's bytes, if it may be told.
func modelBytes(e api.Event) string {
	b := string([]byte{byte(e.Kind)})
	for _, part := range modelParts(e.Kind) {
		switch part {
		case 'M':
			b += modelText(e.Machine)
		case 'I':
			b += modelText(e.Input)
		case 'F':
			b += modelCount(int64(e.Fuel))
		case 'P':
			b += modelCount(int64(len(e.Place)))
			for _, n := range e.Place {
				b += modelCount(int64(n))
			}
		case 'T':
			b += modelCount(e.Time)
		case 'O':
			if e.Outcome.Fine {
				b += "\x01" + modelText(json.Print(e.Outcome.Value))
			} else {
				b += "\x00" + modelText(e.Outcome.Error) + modelText(e.Outcome.Cause)
			}
		}
	}
	return b
}

// modelForm is the one form of an event that may be told.
func modelForm(e api.Event) api.Event {
	form := api.Event{Kind: e.Kind}
	for _, part := range modelParts(e.Kind) {
		switch part {
		case 'M':
			form.Machine = e.Machine
		case 'I':
			form.Input = e.Input
		case 'F':
			form.Fuel = e.Fuel
		case 'P':
			form.Place = e.Place
		case 'T':
			form.Time = e.Time
		case 'O':
			form.Outcome = e.Outcome
			form.Outcome.Value = json.Norm(e.Outcome.Value)
		}
	}
	return form
}

// modelDecode reads freely: counts in any number of bytes, texts that are cut short, whatever stands behind.
func modelDecode(b []byte) (api.Event, bool) {
	left := b
	count := func() int64 {
		n, size := binary.Uvarint(left)
		left = left[max(size, 0):]
		return int64(n)
	}
	text := func() string {
		n := min(uint64(count()), uint64(len(left)))
		piece := string(left[:n])
		left = left[n:]
		return piece
	}
	var e api.Event
	e.Kind = int(count())
	for _, part := range modelParts(e.Kind) {
		switch part {
		case 'M':
			e.Machine = text()
		case 'I':
			e.Input = text()
		case 'F':
			e.Fuel = int(count())
		case 'P':
			for range min(uint64(count()), 500) {
				e.Place = append(e.Place, int(count()))
			}
		case 'T':
			e.Time = count()
		case 'O':
			if e.Outcome.Fine = count() == 1; e.Outcome.Fine {
				e.Outcome.Value, _ = json.Parse(text())
			} else {
				e.Outcome.Error = text()
				e.Outcome.Cause = text()
			}
		}
	}
	return e, modelTellable(e) && modelBytes(e) == string(b)
}

// alike tells whether two events are told alike, field by field; a list without elements may be nil or not.
func alike(a, b api.Event) bool {
	return a.Kind == b.Kind && slices.Equal(a.Place, b.Place) && a.Time == b.Time && a.Machine == b.Machine && a.Input == b.Input && a.Fuel == b.Fuel &&
		a.Outcome.Fine == b.Outcome.Fine && a.Outcome.Error == b.Outcome.Error && a.Outcome.Cause == b.Outcome.Cause && alikeValues(a.Outcome.Value, b.Outcome.Value)
}

func alikeValues(a, b api.Value) bool {
	sameField := func(a, b api.Field) bool { return a.Name == b.Name && alikeValues(a.Value, b.Value) }
	return a.Kind == b.Kind && a.Truth == b.Truth && a.Num == b.Num && a.Text == b.Text && slices.EqualFunc(a.List, b.List, alikeValues) && slices.EqualFunc(a.Fields, b.Fields, sameField)
}

func short[T string | []byte](b T) string {
	if len(b) <= 100 {
		return fmt.Sprintf("% x", b)
	}
	return fmt.Sprintf("% x .. (%d bytes)", b[:100], len(b))
}

func shown(e api.Event) string {
	cut := func(s string) string {
		if len(s) > 60 {
			return fmt.Sprintf("%q.. (%d bytes)", s[:60], len(s))
		}
		return strconv.Quote(s)
	}
	place := fmt.Sprint(e.Place)
	if len(e.Place) > 20 {
		place = fmt.Sprintf("%v.. (%d numbers)", e.Place[:20], len(e.Place))
	}
	return fmt.Sprintf("kind %d, place %s, time %d, machine %s, input %s, fuel %d, outcome %v %s %s %s", e.Kind, place, e.Time, cut(e.Machine), cut(e.Input), e.Fuel, e.Outcome.Fine, cut(json.Print(e.Outcome.Value)), cut(e.Outcome.Error), cut(e.Outcome.Cause))
}
