package dec

import (
	"strconv"
	"strings"

	"voyage/api"
)

const (
	mostDigits = 19      // more than these no int64 has, and these a uint64 holds whatever they are
	lowest     = 1 << 63 // the size of the least int64
)

// Of gives the number of a whole one: P1.5.
func Of(v int64) api.Dec {
	return Norm(api.Dec{Neg: v < 0, Digits: strconv.FormatInt(v, 10)}) // the minus is no digit
}

// Int gives a number as a whole one, if it is one that fits: P1.5.
func Int(d api.Dec) (int64, bool) {
	n := Norm(d)
	if n.Exp < 0 {
		return 0, false
	}
	return Floor(n)
}

// Floor gives the greatest whole number that isn't above, if it fits: P1.5.
func Floor(d api.Dec) (int64, bool) {
	n := Norm(d)
	if top(n) > mostDigits { // ahead of cutting: what is left may lie beyond an exponent's bound
		return 0, false
	}
	size := wholeSize(n)
	if n.Neg && n.Exp < 0 {
		size++
	}
	return signed(n.Neg, size)
}

// wholeSize is the whole part, without its sign, of a number in its one form with at most mostDigits places ahead of the point.
func wholeSize(n api.Dec) uint64 {
	digits := n.Digits
	if n.Exp < 0 {
		digits = digits[:max(0, top(n))]
	} else {
		digits += strings.Repeat("0", n.Exp)
	}
	size := uint64(0)
	for i := range len(digits) {
		size = size*10 + uint64(digits[i]-'0')
	}
	return size
}

// signed gives a size its sign, if that is an int64.
func signed(neg bool, size uint64) (int64, bool) {
	switch {
	case neg && size <= lowest:
		return int64(-size), true // the wrap round makes the least one, too
	case !neg && size < lowest:
		return int64(size), true
	}
	return 0, false
}
