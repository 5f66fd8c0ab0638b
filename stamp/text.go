package stamp

import (
	"strconv"
	"strings"
)

// The parts of a moment's text ahead of its fraction, in their order.
const (
	yearPart = iota
	monthPart
	dayPart
	hourPart
	minutePart
	secondPart
	partCount
)

// parts are the numbers of the parts.
type parts [partCount]int

const (
	lastTextYear   = 9999 // of four digits
	fractionMark   = "."
	fractionDigits = 9
	zeroOffset     = "Z"
)

// look is how a part looks: what stands ahead of it, and how many digits it has.
type look struct {
	mark   string
	digits int
}

func looks() [partCount]look {
	return [partCount]look{{"", 4}, {"-", 2}, {"-", 2}, {"T", 2}, {":", 2}, {":", 2}}
}

// text tells the parts, none of which has more digits than it may have.
func (p parts) text() string {
	var out strings.Builder
	for i, l := range looks() {
		out.WriteString(l.mark + padded(p[i], l.digits))
	}
	return out.String()
}

// fractionText tells the billionths of a second; nothing, if there are none.
func fractionText(nano int) string {
	if nano == 0 {
		return ""
	}
	return fractionMark + strings.TrimRight(padded(nano, fractionDigits), "0")
}

// padded tells a number by at least so many digits.
func padded(n, digits int) string {
	text := strconv.Itoa(n)
	return strings.Repeat("0", max(0, digits-len(text))) + text
}

// reader reads a text from the left. What it reads behind something wrong doesn't count.
type reader struct {
	rest  string
	wrong bool
}

// take goes past this mark, if it stands here, and tells whether it does.
func (r *reader) take(mark string) bool {
	rest, ok := strings.CutPrefix(r.rest, mark)
	r.rest = rest
	return ok
}

// need goes past a mark that must stand here.
func (r *reader) need(mark string) {
	if !r.take(mark) {
		r.wrong = true
	}
}

// number reads all digits that stand here, at most so many, and tells how many there were.
func (r *reader) number(most int) (n, digits int) {
	for digits < most && digits < len(r.rest) && '0' <= r.rest[digits] && r.rest[digits] <= '9' {
		n = n*10 + int(r.rest[digits]-'0')
		digits++
	}
	r.rest = r.rest[digits:]
	return n, digits
}

// part reads a part that looks so.
func (r *reader) part(l look) int {
	r.need(l.mark)
	n, digits := r.number(l.digits)
	if digits < l.digits {
		r.wrong = true
	}
	return n
}

// parts reads all parts.
func (r *reader) parts() parts {
	var p parts
	for i, l := range looks() {
		p[i] = r.part(l)
	}
	return p
}

// fraction reads a point and the digits behind it, if there is one, and gives the billionths of a second that they are.
func (r *reader) fraction() int {
	if !r.take(fractionMark) {
		return 0
	}
	n, digits := r.number(fractionDigits)
	if digits == 0 {
		r.wrong = true
	}
	for ; digits < fractionDigits; digits++ {
		n *= 10
	}
	return n
}

// offset reads how many seconds the place is ahead that the text's clock stands at.
func (r *reader) offset() int {
	if r.take(zeroOffset) {
		return 0
	}
	ahead := r.take("+")
	if !ahead {
		r.need("-")
	}
	hour := r.part(look{"", 2})
	minute := r.part(look{":", 2})
	offset, ok := seconds(hour, minute, 0)
	if !ok {
		r.wrong = true
	}
	if ahead {
		return offset
	}
	return -offset
}
