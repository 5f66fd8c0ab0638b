package dec_test

import (
	"math"
	"math/big"
	"math/rand"
	"regexp"
	"slices"
	"strings"
	"testing"

	"voyage/api"
	"voyage/dec"
)

var ten = big.NewInt(10)

func tenTo(n int) *big.Int { return new(big.Int).Exp(ten, big.NewInt(int64(n)), nil) }

// exact is the number of a Dec as the chapter's words say it, worked out without package dec.
func exact(d api.Dec) *big.Rat {
	m := new(big.Int)
	for _, c := range []byte(d.Digits) {
		if c >= '0' && c <= '9' {
			m.Mul(m, ten).Add(m, big.NewInt(int64(c-'0')))
		}
	}
	if m.Sign() == 0 || d.Exp > api.MaxExponent || d.Exp < -1000000 {
		return new(big.Rat)
	}
	if d.Neg {
		m.Neg(m)
	}
	r := new(big.Rat).SetInt(m)
	if d.Exp < 0 {
		r.Quo(r, new(big.Rat).SetInt(tenTo(-d.Exp)))
	} else {
		r.Mul(r, new(big.Rat).SetInt(tenTo(d.Exp)))
	}
	if _, within := form(r); !within {
		return new(big.Rat)
	}
	return r
}

// form is the one form of a number, and whether its exponent lies within the bounds.
func form(r *big.Rat) (api.Dec, bool) {
	if r.Sign() == 0 {
		return api.Dec{}, true
	}
	exp := 0
	m := new(big.Int).Abs(r.Num())
	if !r.IsInt() {
		text := r.FloatString(20100) // more places than any number here has
		_, places, _ := strings.Cut(text, ".")
		places = strings.TrimRight(places, "0")
		exp = -len(places)
		m.Mul(m, tenTo(-exp)).Quo(m, r.Denom())
	}
	digits := strings.TrimRight(m.String(), "0")
	exp += len(m.String()) - len(digits)
	return api.Dec{Neg: r.Sign() < 0, Digits: digits, Exp: exp}, exp >= -api.MaxExponent && exp <= api.MaxExponent
}

// tellings gives Decs of all sorts: small and great, in the one form and not, within the bounds and beyond.
func tellings(r *rand.Rand, n int) []api.Dec {
	bytes := "00001234567899x-/:\xff"
	var out []api.Dec
	for range n {
		d := api.Dec{Neg: r.Intn(2) == 0, Exp: r.Intn(21) - 10}
		for range r.Intn(12) {
			d.Digits += string(bytes[r.Intn(len(bytes))])
		}
		switch r.Intn(12) {
		case 0:
			d.Exp += 9995
		case 1:
			d.Exp -= 9995
		case 2:
			d.Digits += noughts(r.Intn(30))
		}
		out = append(out, d)
	}
	return out
}

// P1.1 to P1.6 against big.Rat.
func TestAgainstBig(t *testing.T) {
	r := rand.New(rand.NewSource(1))
	all := tellings(r, 600)
	for i, a := range all {
		x := exact(a)
		want, _ := form(x)
		if got := dec.Norm(a); got != want {
			t.Fatalf("Norm(%s): %s, want %s", brief(a), brief(got), brief(want))
		}
		checkWholes(t, a, x)
		b := all[(i*7+1)%len(all)]
		y := exact(b)
		if got := dec.Cmp(a, b); got != x.Cmp(y) {
			t.Fatalf("Cmp(%s, %s): %d", brief(a), brief(b), got)
		}
		got, err := dec.Add(a, b)
		checkForm(t, "Add", a, b, got, err, new(big.Rat).Add(x, y))
		got, err = dec.Mul(a, b)
		checkForm(t, "Mul", a, b, got, err, new(big.Rat).Mul(x, y))
	}
}

func checkForm(t *testing.T, what string, a, b, got api.Dec, err error, r *big.Rat) {
	t.Helper()
	want, within := form(r)
	if within && (err != nil || got != want) || !within && (err != api.ErrExponent || got != api.Dec{}) {
		t.Fatalf("%s(%s, %s): %s, %v, want %s, %v", what, brief(a), brief(b), brief(got), err, brief(want), within)
	}
}

func checkWholes(t *testing.T, d api.Dec, x *big.Rat) {
	t.Helper()
	floor := new(big.Int).Div(x.Num(), x.Denom()) // the denominator is above nought, so this rounds down
	v, ok := dec.Floor(d)
	if ok != floor.IsInt64() || ok && v != floor.Int64() || !ok && v != 0 {
		t.Fatalf("Floor(%s): %d, %v, want %v", brief(d), v, ok, floor)
	}
	whole := x.IsInt() && floor.IsInt64()
	v, ok = dec.Int(d)
	if ok != whole || ok && v != floor.Int64() || !ok && v != 0 {
		t.Fatalf("Int(%s): %d, %v, want %v", brief(d), v, ok, floor)
	}
}

// P1.2: every short text of the bytes that matter, against a pattern and big.Rat.
func TestParseEveryShortText(t *testing.T) {
	numeral := regexp.MustCompile(`\A-?(0|[1-9][0-9]*)(\.[0-9]+)?([eE][+-]?[0-9]+)?\z`)
	var walk func(s string, left int)
	walk = func(s string, left int) {
		got, err := dec.Parse(s)
		if !numeral.MatchString(s) {
			if err != api.ErrNumber || got != (api.Dec{}) {
				t.Fatalf("Parse(%q): %s, %v", s, brief(got), err)
			}
		} else if x, _ := new(big.Rat).SetString(s); err != nil || exact(got).Cmp(x) != 0 || dec.Norm(got) != got {
			t.Fatalf("Parse(%q): %s, %v", s, brief(got), err)
		}
		if left > 0 {
			for _, c := range "-+.eE019 " {
				walk(s+string(c), left-1)
			}
		}
	}
	walk("", 5)
}

// P1.8: what is told is read as the same; one text just if one number.
func TestTextsTellNumbers(t *testing.T) {
	all := tellings(rand.New(rand.NewSource(2)), 400)
	all = append(all, told("1e9999"), told("-1e-9999"), told("10e9998"), told("1"+noughts(10000)+"5e-1"))
	for _, d := range all {
		got, err := dec.Parse(dec.Text(d))
		if err != nil || got != dec.Norm(d) {
			t.Fatalf("Parse of Text(%s): %s, %v", brief(d), brief(got), err)
		}
		for _, e := range all {
			if (dec.Text(d) == dec.Text(e)) != (dec.Cmp(d, e) == 0) {
				t.Fatalf("the texts of %s and %s", brief(d), brief(e))
			}
		}
	}
}

// P1.8: Add and Mul in any order, put together in any way; a product of a sum.
func TestSumsAndProducts(t *testing.T) {
	r := rand.New(rand.NewSource(3))
	for range 1500 {
		l := tellings(r, 3)
		a, b, c := l[0], l[1], l[2]
		for _, f := range []func(a, b api.Dec) (api.Dec, error){dec.Add, dec.Mul} {
			x, e := f(a, b)
			if y, g := f(b, a); x != y || e != g {
				t.Fatalf("the order of %s and %s matters", brief(a), brief(b))
			}
			y, g := f(b, c)
			if e != nil || g != nil {
				continue
			}
			left, e := f(x, c)
			right, g := f(a, y)
			if e == nil && g == nil && left != right {
				t.Fatalf("%s, %s, %s: how they are put together matters", brief(a), brief(b), brief(c))
			}
		}
		checkSpread(t, a, b, c)
	}
}

func checkSpread(t *testing.T, a, b, c api.Dec) {
	t.Helper()
	sum, e1 := dec.Add(b, c)
	left, e2 := dec.Mul(a, sum)
	ab, e3 := dec.Mul(a, b)
	ac, e4 := dec.Mul(a, c)
	right, e5 := dec.Add(ab, ac)
	if e1 == nil && e2 == nil && e3 == nil && e4 == nil && e5 == nil && left != right {
		t.Fatalf("%s times the sum of %s and %s", brief(a), brief(b), brief(c))
	}
}

// P1.8: Cmp is an order that goes by the numbers; something above nought makes a sum greater.
func TestOrder(t *testing.T) {
	all := tellings(rand.New(rand.NewSource(4)), 400)
	slices.SortFunc(all, dec.Cmp)
	for i, a := range all {
		for j, b := range all {
			c := dec.Cmp(a, b)
			if c != -dec.Cmp(b, a) || c != dec.Cmp(dec.Norm(a), dec.Norm(b)) || i < j && c > 0 || i == j && c != 0 {
				t.Fatalf("Cmp(%s, %s): %d", brief(a), brief(b), c)
			}
		}
		more := all[len(all)-1-i]
		if sum, err := dec.Add(a, more); err == nil && dec.Cmp(more, api.Dec{}) > 0 && dec.Cmp(sum, a) <= 0 {
			t.Fatalf("%s and %s together aren't above the first", brief(a), brief(more))
		}
	}
}

// exactDelay is P1.7 word by word.
func exactDelay(interval int64, rate api.Dec, k int, most int64) int64 {
	billion := new(big.Rat).SetInt64(1000000000)
	scaled := new(big.Rat).Mul(exact(rate), billion)
	factor := new(big.Rat).SetInt(new(big.Int).Quo(scaled.Num(), scaled.Denom()))
	factor.Quo(factor, billion)
	if one := big.NewRat(1, 1); factor.Cmp(one) < 0 {
		factor = one
	}
	if top := big.NewRat(1000, 1); factor.Cmp(top) > 0 {
		factor = top
	}
	wait := new(big.Rat).SetInt64(max(interval, 0))
	for range min(max(k, 1), 100) - 1 {
		wait.Mul(wait, factor)
	}
	if most < 1 {
		most = api.MaxDelay
	}
	floor := new(big.Int).Quo(wait.Num(), wait.Denom())
	if !floor.IsInt64() {
		return min(most, api.MaxDelay)
	}
	return min(floor.Int64(), most, api.MaxDelay)
}

// P1.7 against big.Rat.
func TestDelayAgainstBig(t *testing.T) {
	r := rand.New(rand.NewSource(5))
	rates := []string{"1e0", "1000000001e-9", "1000000000999e-12", "101e-2", "11e-1", "15e-1", "2e0", "1999999999e-9", "10e0", "99999999999e-8", "-2e0", "5e-1", "e0", "123456789123e-11"}
	for range 3000 {
		interval := r.Int63() >> r.Intn(63)
		rate, k, most := told(rates[r.Intn(len(rates))]), r.Intn(104)-2, r.Int63()>>r.Intn(63)-1
		if got, want := dec.Delay(interval, rate, k, most), exactDelay(interval, rate, k, most); got != want {
			t.Fatalf("Delay(%d, %s, %d, %d): %d, want %d", interval, brief(rate), k, most, got, want)
		}
	}
}

// P1.8: Delay never falls as an argument rises, and never lies below the least of interval, most and MaxDelay.
func TestDelayNeverFalls(t *testing.T) {
	intervals := []int64{math.MinInt64, -1, 0, 1, 2, 59, 1000000, 1<<31 - 1, 1 << 31, 1<<31 + 1, math.MaxInt64}
	rates := []string{"-1e9999", "-2e0", "e0", "5e-1", "999999999e-9", "1e0", "10000000009e-10", "1000000001e-9", "101e-2", "15e-1", "2e0", "999999999999e-9", "1e3", "1001e0", "1e9999", "1" + noughts(10009) + "5e-10"}
	ks := []int{math.MinInt, -1, 0, 1, 2, 3, 7, 31, 99, 100, 101, math.MaxInt}
	mosts := []int64{1, 2, 60, 1000, 1<<31 - 1, 1 << 31, 1<<31 + 1, math.MaxInt64}
	at := func(i, r, k, m int) int64 { return dec.Delay(intervals[i], told(rates[r]), ks[k], mosts[m]) }
	for i := range intervals {
		for r := range rates {
			for k := range ks {
				for m := range mosts {
					d := at(i, r, k, m)
					if d < at(max(i-1, 0), r, k, m) || d < at(i, max(r-1, 0), k, m) || d < at(i, r, max(k-1, 0), m) || d < at(i, r, k, max(m-1, 0)) || d < min(intervals[i], mosts[m], api.MaxDelay) || d < 0 || d > api.MaxDelay {
						t.Fatalf("Delay(%d, %s, %d, %d): %d", intervals[i], brief(told(rates[r])), ks[k], mosts[m], d)
					}
				}
			}
		}
	}
}
