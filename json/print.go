package json

import (
	"strings"

	"voyage/api"
	"voyage/dec"
)

const hexDigits = "0123456789abcdef"

// Print tells a value as a text: P2.3.
func Print(v api.Value) string {
	var out strings.Builder
	var tell func(api.Value)
	tellField := func(field api.Field) {
		writeText(&out, field.Name)
		out.WriteByte(':')
		tell(field.Value)
	}
	tell = func(v api.Value) {
		switch v.Kind {
		case api.Truth:
			out.WriteString(truthWord(v.Truth))
		case api.Number:
			out.WriteString(dec.Text(v.Num))
		case api.Text:
			writeText(&out, v.Text)
		case api.List:
			writeRow(&out, '[', v.List, tell, ']')
		case api.Object:
			writeRow(&out, '{', v.Fields, tellField, '}')
		default:
			out.WriteString(nullWord)
		}
	}
	tell(Norm(v))
	return out.String()
}

// writeRow writes the items, each told by tell, with a comma between each two, within brackets.
func writeRow[T any](out *strings.Builder, begin byte, items []T, tell func(T), end byte) {
	out.WriteByte(begin)
	for i, item := range items {
		if i > 0 {
			out.WriteByte(',')
		}
		tell(item)
	}
	out.WriteByte(end)
}

// writeText writes a text that is in UTF-8.
func writeText(out *strings.Builder, text string) {
	out.WriteByte('"')
	for _, letter := range text {
		writeLetter(out, letter)
	}
	out.WriteByte('"')
}

// writeLetter writes a letter of a text; the escapes are those that there must be, so that each value has one text.
func writeLetter(out *strings.Builder, letter rune) {
	switch letter {
	case '"', '\\':
		out.WriteByte('\\')
		out.WriteRune(letter)
	case '\b':
		out.WriteString(`\b`)
	case '\t':
		out.WriteString(`\t`)
	case '\n':
		out.WriteString(`\n`)
	case '\f':
		out.WriteString(`\f`)
	case '\r':
		out.WriteString(`\r`)
	default:
		if letter >= ' ' {
			out.WriteRune(letter)
			return
		}
		out.WriteString(`\u00`)
		out.WriteByte(hexDigits[letter>>4])
		out.WriteByte(hexDigits[letter&15])
	}
}

func truthWord(truth bool) string {
	if truth {
		return trueWord
	}
	return falseWord
}
