package dec

import (
	"strings"

	"voyage/api"
)

// spread tells a number in its one form by width digits, the last of which counts ten to the exp; exp is at most its own.
func spread(n api.Dec, exp, width int) string {
	behind := n.Exp - exp
	ahead := width - behind - len(n.Digits)
	return strings.Repeat("0", ahead) + n.Digits + strings.Repeat("0", behind)
}

// sum adds two rows of digits of one width.
func sum(x, y string) string {
	out := make([]byte, len(x)+1)
	carry := byte(0)
	for i := len(x) - 1; i >= 0; i-- {
		v := (x[i] - '0') + (y[i] - '0') + carry
		out[i+1] = '0' + v%10
		carry = v / 10
	}
	out[0] = '0' + carry
	return string(out)
}

// difference takes y away from x: rows of one width, of which y isn't the greater one.
func difference(x, y string) string {
	out := make([]byte, len(x))
	borrow := byte(0)
	for i := len(x) - 1; i >= 0; i-- {
		v := 10 + (x[i] - '0') - (y[i] - '0') - borrow
		out[i] = '0' + v%10
		borrow = 1 - v/10
	}
	return string(out)
}

// product multiplies two rows of digits, column by column from the last one on, so that one carry is all that is kept beside the answer.
func product(x, y string) string {
	out := make([]byte, len(x)+len(y))
	carry := uint64(0)
	for i := len(out) - 1; i >= 0; i-- {
		carry += column(x, y, i-1)
		out[i] = '0' + byte(carry%10)
		carry /= 10
	}
	return string(out)
}

// column adds up x[i] times y[j] wherever i and j are k together.
func column(x, y string, k int) uint64 {
	total := uint64(0)
	for i := max(0, k-len(y)+1); i < len(x) && i <= k; i++ {
		total += uint64(x[i]-'0') * uint64(y[k-i]-'0')
	}
	return total
}
