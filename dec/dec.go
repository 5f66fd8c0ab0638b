// Package dec is layer 1: exact decimal numbers as JSON writes them, and how long a retry waits. See shared/doc/01-dec.md.
package dec

import (
	"cmp"
	"strconv"
	"strings"

	"voyage/api"
)

// Norm gives a number in its one form: P1.1.
func Norm(d api.Dec) api.Dec {
	n, _ := oneForm(d.Neg, onlyDigits(d.Digits), d.Exp)
	return n
}

// Parse reads a number as JSON writes it: P1.2.
func Parse(s string) (api.Dec, error) {
	n, ok := readNumeral(s)
	if !ok {
		return api.Dec{}, api.ErrNumber
	}
	return inBounds(n.neg, n.whole+n.fraction, n.exponent())
}

// Text tells a number: P1.3.
func Text(d api.Dec) string {
	n := Norm(d)
	if n.Digits == "" {
		return "0"
	}
	text := n.Digits
	if n.Neg {
		text = "-" + text
	}
	if n.Exp != 0 {
		text += "e" + strconv.Itoa(n.Exp)
	}
	return text
}

// Cmp tells which is greater: -1, 0, 1: P1.4.
func Cmp(a, b api.Dec) int {
	a, b = Norm(a), Norm(b)
	if order := cmp.Compare(sign(a), sign(b)); order != 0 {
		return order
	}
	if a.Neg {
		a, b = b, a
	}
	return compareSizes(a, b)
}

// Add adds: P1.6.
func Add(a, b api.Dec) (api.Dec, error) {
	a, b = Norm(a), Norm(b)
	exp := min(a.Exp, b.Exp)
	width := max(top(a), top(b)) - exp
	x, y := spread(a, exp, width), spread(b, exp, width)
	if a.Neg == b.Neg {
		return inBounds(a.Neg, sum(x, y), exp)
	}
	if x < y { // of one width, so the order of the texts is that of the numbers
		return inBounds(b.Neg, difference(y, x), exp)
	}
	return inBounds(a.Neg, difference(x, y), exp)
}

// Mul multiplies: P1.6.
func Mul(a, b api.Dec) (api.Dec, error) {
	a, b = Norm(a), Norm(b)
	return inBounds(a.Neg != b.Neg, product(a.Digits, b.Digits), a.Exp+b.Exp)
}

// onlyDigits leaves out the bytes that don't count.
func onlyDigits(s string) string {
	kept := make([]byte, 0, len(s))
	for i := range len(s) {
		if '0' <= s[i] && s[i] <= '9' {
			kept = append(kept, s[i])
		}
	}
	return string(kept)
}

// oneForm gives the one form of digits (all of them `0` to `9`) times ten to the exp. Where that is a number beyond the exponent's bounds: nought and false.
func oneForm(neg bool, digits string, exp int) (api.Dec, bool) {
	digits = strings.TrimLeft(digits, "0")
	short := strings.TrimRight(digits, "0")
	if short == "" {
		return api.Dec{}, true
	}
	if exp > api.MaxExponent { // ahead of adding to it: the greatest int would wrap round
		return api.Dec{}, false
	}
	exp += len(digits) - len(short)
	if exp < -api.MaxExponent || exp > api.MaxExponent {
		return api.Dec{}, false
	}
	return api.Dec{Neg: neg, Digits: strings.Clone(short), Exp: exp}, true
}

// inBounds is oneForm where a number beyond the bounds is an error, not nought.
func inBounds(neg bool, digits string, exp int) (api.Dec, error) {
	n, ok := oneForm(neg, digits, exp)
	if !ok {
		return api.Dec{}, api.ErrExponent
	}
	return n, nil
}

// sign is -1, 0 or 1, of a number in its one form.
func sign(n api.Dec) int {
	switch {
	case n.Digits == "":
		return 0
	case n.Neg:
		return -1
	}
	return 1
}

// top tells how many places stand ahead of the point (below 0: how many noughts follow it), of a number in its one form.
func top(n api.Dec) int {
	return len(n.Digits) + n.Exp
}

// compareSizes holds two numbers in their one form, both nought or neither, against each other without their signs.
func compareSizes(a, b api.Dec) int {
	if order := cmp.Compare(top(a), top(b)); order != 0 {
		return order
	}
	return strings.Compare(a.Digits, b.Digits) // both begin at the same place
}
