package dec

import "strings"

const digitBytes = "0123456789"

// farExponent lies so far out that no text has enough digits to bring an exponent beyond it back into the bounds.
const farExponent = 1 << 40

// numeral is a numeral's text, cut into its parts.
type numeral struct {
	neg      bool
	whole    string
	fraction string
	powerNeg bool
	power    string
}

// exponent is the power of ten that the digits of whole and fraction, put together, are to be multiplied with.
func (n numeral) exponent() int {
	e := 0
	for i := range len(n.power) {
		if e < farExponent { // a long power would wrap round
			e = e*10 + int(n.power[i]-'0')
		}
	}
	if n.powerNeg {
		e = -e
	}
	return e - len(n.fraction)
}

// reader stands at a place of a text.
type reader struct {
	text string
	at   int
}

// takes goes past the next byte, if it is one of these.
func (r *reader) takes(bytes string) bool {
	if r.ended() || strings.IndexByte(bytes, r.text[r.at]) < 0 {
		return false
	}
	r.at++
	return true
}

// ended tells whether there is no next byte.
func (r *reader) ended() bool {
	return r.at == len(r.text)
}

// readNumeral goes from place to place, each of them a label; at those where a numeral may be over, the text must be. False, if s is no numeral.
func readNumeral(s string) (n numeral, ok bool) {
	r, from := reader{text: s}, 0
	if r.takes("-") {
		goto sign
	}
	goto first

sign: // behind it
	n.neg = true

first: // digit: ahead of it
	from = r.at
	if r.takes("0") {
		goto counted // no digit may follow it
	}
	if r.takes(digitBytes) {
		goto whole
	}
	return n, false

whole: // behind a digit of a whole part that may go on
	if r.takes(digitBytes) {
		goto whole
	}

counted: // behind the whole part
	n.whole = s[from:r.at]
	if r.takes(".") {
		goto point
	}
	goto measured

point: // behind it
	from = r.at
	if r.takes(digitBytes) {
		goto fraction
	}
	return n, false

fraction: // behind a digit of it
	if r.takes(digitBytes) {
		goto fraction
	}
	n.fraction = s[from:r.at]

measured: // behind the digits that count
	if r.takes("eE") {
		n.powerNeg, n.power, ok = readPower(&r)
		return n, ok
	}
	return n, r.ended()
}

// readPower goes on behind the letter ahead of the power, up to the text's end.
func readPower(r *reader) (neg bool, digits string, ok bool) {
	from := r.at
	if r.takes("-") {
		goto minus
	}
	if r.takes("+") {
		goto sign
	}
	goto first

minus: // behind it
	neg = true

sign: // behind either one
	from = r.at

first: // digit: ahead of it
	if r.takes(digitBytes) {
		goto power
	}
	return false, "", false

power: // behind a digit of it
	if r.takes(digitBytes) {
		goto power
	}
	return neg, r.text[from:r.at], r.ended()
}
