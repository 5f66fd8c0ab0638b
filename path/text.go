package path

import (
	"math"
	"strconv"
	"strings"

	"voyage/api"
)

// Text tells a path: P3.4.
func Text(p api.Path) string {
	if p.Nothing {
		return ""
	}
	var out strings.Builder
	out.WriteByte('$')
	if p.Context {
		out.WriteByte('$')
	}
	for _, s := range p.Steps {
		if s.IsAt {
			out.WriteString("[" + strconv.Itoa(s.Place) + "]")
		} else {
			writeName(&out, meant(s.Name))
		}
	}
	return out.String()
}

// writeName tells a step by a name, which is told as it counts.
func writeName(out *strings.Builder, name string) {
	if name != "" && plainBytes(name) == len(name) {
		out.WriteString("." + name)
		return
	}
	out.WriteString("['")
	for i := range len(name) {
		if name[i] == '\'' || name[i] == '\\' {
			out.WriteByte('\\')
		}
		out.WriteByte(name[i])
	}
	out.WriteString("']")
}

// plainBytes tells how many bytes, at the beginning of a text, may stand in a plain name.
func plainBytes(text string) int {
	for i := range len(text) {
		b := text[i]
		if (b < 'A' || b > 'Z') && (b < 'a' || b > 'z') && (b < '0' || b > '9') && b != '_' && b != '-' {
			return i
		}
	}
	return len(text)
}

// Parse reads a path: P3.1. A 65th step isn't read: so the byte that would begin it is one too many.
func Parse(s string) (api.Path, error) {
	r := reader{source: s}
	if !r.take('$') {
		return api.Path{}, r.fault()
	}
	p := api.Path{Set: true, Context: r.take('$')}
steps:
	for len(p.Steps) < api.MaxSteps {
		var next api.Step
		var ok bool
		switch {
		case r.take('.'):
			next, ok = r.plainName()
		case r.take('['):
			next, ok = r.bracket()
		default:
			break steps
		}
		if !ok {
			return api.Path{}, r.fault()
		}
		p.Steps = append(p.Steps, next)
	}
	if r.at < len(s) {
		return api.Path{}, r.fault()
	}
	return p, nil
}

// reader stands at a byte of a text. Ahead of what can't stand where it stands it stays, so that its place is the fault's.
type reader struct {
	source string
	at     int
}

// fault is that of the reader's place.
func (r *reader) fault() error {
	return &api.Fault{At: r.at, Err: api.ErrPath}
}

// take goes past this byte, if it stands here, and tells whether it does.
func (r *reader) take(b byte) bool {
	if r.at == len(r.source) || r.source[r.at] != b {
		return false
	}
	r.at++
	return true
}

// plainName reads what stands behind a point.
func (r *reader) plainName() (api.Step, bool) {
	size := plainBytes(r.source[r.at:])
	name := strings.Clone(r.source[r.at : r.at+size]) // a piece of the text would keep all of it
	r.at += size
	return api.Step{Name: name}, name != ""
}

// bracket reads what stands behind a bracket, and the bracket that ends it.
func (r *reader) bracket() (api.Step, bool) {
	if r.take('\'') {
		name, ok := r.quoted()
		return api.Step{Name: name}, ok && r.take(']')
	}
	place, ok := r.place()
	return api.Step{Place: place, IsAt: true}, ok && r.take(']')
}

// quoted reads a name of any bytes, and the quote that ends it.
func (r *reader) quoted() (string, bool) {
	var name strings.Builder
	for r.at < len(r.source) {
		switch {
		case r.take('\''):
			return meant(name.String()), true
		case r.take('\\'):
			if r.at == len(r.source) || r.source[r.at] != '\'' && r.source[r.at] != '\\' {
				return "", false
			}
		}
		name.WriteByte(r.source[r.at])
		r.at++
	}
	return "", false
}

// place reads a number, of which no digit is read that it can't have.
func (r *reader) place() (int, bool) {
	below := r.take('-')
	if !below && r.take('0') {
		return 0, true
	}
	place := 0
	for r.at < len(r.source) && r.source[r.at] >= '0' && r.source[r.at] <= '9' {
		digit := int(r.source[r.at] - '0')
		if place == 0 && digit == 0 || place > (math.MaxInt32-digit)/10 {
			return 0, false
		}
		place = place*10 + digit
		r.at++
	}
	if below {
		return -place, place > 0
	}
	return place, place > 0
}
