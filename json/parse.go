package json

import (
	"slices"
	"strings"
	"unicode/utf8"

	"voyage/api"
	"voyage/dec"
)

const (
	nullWord  = "null"
	trueWord  = "true"
	falseWord = "false"

	gapBytes    = " \t\n\r"
	numberBytes = "+-.eE0123456789"
)

// noLetter stands for the letter behind a text's end.
const noLetter rune = -1

// Parse reads a text's value: P2.4.
func Parse(s string) (api.Value, error) {
	r := reader{source: s}
	if len(s) > api.MaxText {
		return api.Value{}, r.fault(api.ErrLong)
	}
	v, err := r.value()
	if err != nil {
		return api.Value{}, err
	}
	r.skip(gapBytes)
	if r.next() != noLetter {
		return api.Value{}, r.fault(api.ErrDue)
	}
	return v, nil
}

// reader stands at a byte of a text, with so many lists and objects open there. Where what it reads is wrong it stays, so that its place is the fault's.
type reader struct {
	source string
	at     int
	open   int
}

// fault is an error at the reader's place.
func (r *reader) fault(err error) error {
	return &api.Fault{At: r.at, Err: err}
}

// next is the letter at the reader's place.
func (r *reader) next() rune {
	if r.at == len(r.source) {
		return noLetter
	}
	letter, _ := utf8.DecodeRuneInString(r.source[r.at:])
	return letter
}

// skip goes past all bytes of this kind that stand here.
func (r *reader) skip(kind string) {
	for r.at < len(r.source) && strings.IndexByte(kind, r.source[r.at]) >= 0 {
		r.at++
	}
}

// value reads a value, and the gap ahead of it.
func (r *reader) value() (api.Value, error) {
	r.skip(gapBytes)
	switch r.next() {
	case 'n':
		return r.word(nullWord, api.Value{})
	case 't':
		return r.word(trueWord, api.Value{Kind: api.Truth, Truth: true})
	case 'f':
		return r.word(falseWord, api.Value{Kind: api.Truth})
	case '-', '0', '1', '2', '3', '4', '5', '6', '7', '8', '9':
		return r.number()
	case '"':
		return r.text()
	case '[':
		return r.list()
	case '{':
		return r.object()
	}
	return api.Value{}, r.fault(api.ErrDue)
}

// word reads a word, which tells v.
func (r *reader) word(word string, v api.Value) (api.Value, error) {
	if !strings.HasPrefix(r.source[r.at:], word) {
		return api.Value{}, r.fault(api.ErrDue)
	}
	r.at += len(word)
	return v, nil
}

// number reads a number: all bytes that may be of one, whether or not they are one together.
func (r *reader) number() (api.Value, error) {
	from := r.at
	r.skip(numberBytes)
	number, err := dec.Parse(r.source[from:r.at])
	if err != nil {
		r.at = from
		return api.Value{}, r.fault(err)
	}
	return api.Value{Kind: api.Number, Num: number}, nil
}

func (r *reader) text() (api.Value, error) {
	text, err := r.letters()
	if err != nil {
		return api.Value{}, err
	}
	return api.Value{Kind: api.Text, Text: text}, nil
}

func (r *reader) list() (api.Value, error) {
	var list []api.Value
	err := r.row(']', func() error {
		element, err := r.value()
		list = append(list, element)
		return err
	})
	if err != nil {
		return api.Value{}, err
	}
	return api.Value{Kind: api.List, List: list}, nil
}

func (r *reader) object() (api.Value, error) {
	var fields []api.Field
	places := map[string]int{} // of the names up to here, so that one that comes twice is told where it does
	err := r.row('}', func() error {
		name, err := r.name(places)
		if err != nil {
			return err
		}
		places[name] = len(fields)
		value, err := r.fieldValue()
		fields = append(fields, api.Field{Name: name, Value: value})
		return err
	})
	if err != nil {
		return api.Value{}, err
	}
	slices.SortFunc(fields, byName)
	return api.Value{Kind: api.Object, Fields: fields}, nil
}

// row reads brackets, at the first of which the reader stands, and what is within them: a gap, or items with a comma between each two.
func (r *reader) row(end rune, item func() error) error {
	if r.open == api.MaxDepth {
		return r.fault(api.ErrDeep)
	}
	r.open++
	r.at++
	r.skip(gapBytes)
	ended := r.next() == end
	for !ended {
		if err := item(); err != nil {
			return err
		}
		r.skip(gapBytes)
		switch r.next() {
		case ',':
			r.at++
		case end:
			ended = true
		default:
			return r.fault(api.ErrDue)
		}
	}
	r.open--
	r.at++
	return nil
}

// name reads a field's name, which none of those that are there already may be, and the gap ahead of it.
func (r *reader) name(already map[string]int) (string, error) {
	r.skip(gapBytes)
	if r.next() != '"' {
		return "", r.fault(api.ErrDue)
	}
	from := r.at
	name, err := r.letters()
	if err != nil {
		return "", err
	}
	if _, twice := already[name]; twice {
		r.at = from
		return "", r.fault(api.ErrTwice)
	}
	return name, nil
}

// fieldValue reads what stands behind a field's name.
func (r *reader) fieldValue() (api.Value, error) {
	r.skip(gapBytes)
	if r.next() != ':' {
		return api.Value{}, r.fault(api.ErrDue)
	}
	r.at++
	return r.value()
}
