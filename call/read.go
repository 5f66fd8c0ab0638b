package call

import (
	"errors"
	"strings"

	"voyage/api"
	"voyage/dec"
	"voyage/json"
	"voyage/path"
)

const (
	nullWord  = "null"
	trueWord  = "true"
	falseWord = "false"

	gapBytes    = " \t\n\r"
	numberBytes = "+-.eE0123456789"
	letterBytes = "ABCDEFGHIJKLMNOPQRSTUVWXYZabcdefghijklmnopqrstuvwxyz"
	pathEnds    = gapBytes + ",)"
	nameMark    = "['" // begins a name in a path, in which the bytes of pathEnds may stand
	escapable   = `'\{}`
	slot        = "{}"
)

// noByte stands for the byte behind a text's end; no argument begins with it.
const noByte = 0

// read gives the call that s is, or the fault at which reading was given up.
func read(s string) (found aCall, err error) {
	r := reader{source: s}
	defer func() {
		given := recover()
		if fault, ok := given.(*api.Fault); ok {
			found, err = aCall{}, fault
		} else if given != nil {
			panic(given)
		}
	}()
	found = r.call()
	if r.at < len(s) {
		r.giveUp(r.at, api.ErrDue)
	}
	return found, nil
}

// reader stands at a byte of a text, within so many calls.
type reader struct {
	source string
	at     int
	within int
}

// giveUp ends the reading, however deep in calls it stands.
func (r *reader) giveUp(at int, err error) {
	panic(&api.Fault{At: at, Err: err})
}

// next is the byte at the reader's place.
func (r *reader) next() byte {
	if r.at == len(r.source) {
		return noByte
	}
	return r.source[r.at]
}

// take goes past this word, if it stands here, and tells whether it does.
func (r *reader) take(word string) bool {
	if !strings.HasPrefix(r.source[r.at:], word) {
		return false
	}
	r.at += len(word)
	return true
}

// need goes past a word that must stand here.
func (r *reader) need(word string) {
	if !r.take(word) {
		r.giveUp(r.at, api.ErrDue)
	}
}

// run goes past all bytes of this kind that stand here, and gives them.
func (r *reader) run(kind string) string {
	from := r.at
	for r.at < len(r.source) && strings.IndexByte(kind, r.source[r.at]) >= 0 {
		r.at++
	}
	return r.source[from:r.at]
}

// call reads a call.
func (r *reader) call() aCall {
	from := r.at
	r.need(callMark)
	if r.within == api.MaxDepth {
		r.giveUp(from, api.ErrDeep)
	}
	name := r.run(letterBytes)
	if name == "" {
		r.giveUp(r.at, api.ErrDue)
	}
	f, ok := functionOf(name)
	if !ok {
		r.giveUp(from, api.ErrCall)
	}
	r.within++
	arguments := r.arguments()
	r.within--
	if !f.takes(arguments) {
		r.giveUp(from, api.ErrCall)
	}
	if f.inPieces {
		arguments[0].value = textList(arguments[0].pieces)
	}
	return aCall{function: f, arguments: arguments}
}

// arguments reads brackets and what is within them: a gap, or arguments with a comma between each two.
func (r *reader) arguments() []argument {
	r.need("(")
	r.run(gapBytes)
	if r.take(")") {
		return nil
	}
	var arguments []argument
	for {
		arguments = append(arguments, r.argument())
		r.run(gapBytes)
		if r.take(")") {
			return arguments
		}
		r.need(",")
		r.run(gapBytes)
	}
}

func (r *reader) argument() argument {
	switch r.next() {
	case '\'':
		return r.text()
	case '-', '0', '1', '2', '3', '4', '5', '6', '7', '8', '9':
		return r.number()
	case 'n':
		return r.word(nullWord, api.Value{})
	case 't':
		return r.word(trueWord, api.Value{Kind: api.Truth, Truth: true})
	case 'f':
		return r.word(falseWord, api.Value{Kind: api.Truth})
	case '$':
		return r.path()
	case 'S':
		return argument{kind: called, call: r.call()}
	}
	r.giveUp(r.at, api.ErrDue)
	return argument{}
}

// word reads a word, which tells v.
func (r *reader) word(word string, v api.Value) argument {
	r.need(word)
	return argument{value: v}
}

// number reads a number: all bytes that may be of one, whether or not they are one together.
func (r *reader) number() argument {
	from := r.at
	number, err := dec.Parse(r.run(numberBytes))
	if err != nil {
		r.giveUp(from, err)
	}
	return argument{value: api.Value{Kind: api.Number, Num: number}}
}

// text reads a text, at whose first quote the reader stands. Each piece is told in UTF-8 for itself: bytes on both sides of a `{}` make no letter together.
func (r *reader) text() argument {
	var pieces []string
	var piece strings.Builder
	r.at++
	for !r.take("'") {
		if r.take(slot) {
			pieces = append(pieces, said(piece.String()))
			piece.Reset()
		} else {
			piece.WriteByte(r.letter())
		}
	}
	pieces = append(pieces, said(piece.String()))
	return argument{value: api.Value{Kind: api.Text, Text: strings.Join(pieces, slot)}, pieces: pieces}
}

// letter reads a byte of a text.
func (r *reader) letter() byte {
	rest := r.source[r.at:]
	switch {
	case rest == "", rest[0] == '{', rest[0] == '}':
		r.giveUp(r.at, api.ErrText)
	case rest[0] == '\\':
		if len(rest) == 1 || strings.IndexByte(escapable, rest[1]) < 0 {
			r.giveUp(r.at, api.ErrText)
		}
		r.at += 2
		return rest[1]
	}
	r.at++
	return rest[0]
}

// said gives what a text says, in UTF-8.
func said(text string) string {
	return json.Norm(api.Value{Kind: api.Text, Text: text}).Text
}

// path reads a path.
func (r *reader) path() argument {
	from := r.at
	r.at = pathEnd(r.source, from)
	p, err := path.Parse(r.source[from:r.at])
	var fault *api.Fault
	if errors.As(err, &fault) {
		r.giveUp(from+fault.At, api.ErrPath)
	}
	return argument{kind: led, path: p}
}

// pathEnd tells where the path's bytes end that begin at this place.
func pathEnd(s string, at int) int {
	for at < len(s) && strings.IndexByte(pathEnds, s[at]) < 0 {
		if strings.HasPrefix(s[at:], nameMark) {
			at = nameEnd(s, at+len(nameMark))
		} else {
			at++
		}
	}
	return at
}

// nameEnd tells where a name in a path ends, behind its quote, or that nothing ends it.
func nameEnd(s string, at int) int {
	for at < len(s) {
		switch s[at] {
		case '\'':
			return at + 1
		case '\\':
			at++
		}
		at++
	}
	return len(s)
}
