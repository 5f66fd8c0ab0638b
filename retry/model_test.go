package retry_test

import (
	"math/big"
	"strings"

	"voyage/api"
)

// The model of another make: what names speak of is told as the names that they leave out, and places are found from behind.

// leftOut tells what a name leaves out: of those that stand for many the names themselves, of others all but one.
func leftOut(word string) func(name string) bool {
	switch {
	case strings.HasPrefix(word, "States.ALL") && len(word) == 10:
		return func(name string) bool { return name == outOfFuel }
	case strings.HasPrefix(word, "States.TaskFailed") && len(word) == 17:
		return func(name string) bool { return name == outOfFuel || name == timeout }
	}
	return func(name string) bool { return name == outOfFuel || strings.Compare(name, word) != 0 }
}

func modelMatches(names []string, name string) bool {
	left := 0
	for _, word := range names {
		if leftOut(word)(name) {
			left++
		}
	}
	return left < len(names)
}

func modelFirst(all [][]string, name string) int {
	found := -1
	for i := len(all) - 1; i >= 0; i-- {
		if modelMatches(all[i], name) {
			found = i
		}
	}
	return found
}

func modelRetry(l []api.Retrier, charged []int, name string) given {
	all, often := [][]string{}, make([]int, len(l))
	for i, r := range l {
		all = append(all, r.Errors)
		if i < len(charged) && charged[i] > 0 {
			often[i] = charged[i]
		}
	}
	i := modelFirst(all, name)
	if i < 0 || big.NewInt(int64(often[i])).Cmp(big.NewInt(int64(l[i].Most))) >= 0 {
		return given{}
	}
	return given{i, modelDelay(l[i], often[i]), true}
}

// modelDelay reckons with fractions: the rates of these tests are few, told with few digits.
func modelDelay(r api.Retrier, times int) int64 {
	rate := new(big.Rat)
	if r.Rate.Digits != "" {
		rate.SetString(r.Rate.Digits + "e" + big.NewInt(int64(r.Rate.Exp)).String())
	}
	if r.Rate.Neg || rate.Cmp(big.NewRat(1, 1)) < 0 {
		rate.SetInt64(1)
	}
	if rate.Cmp(big.NewRat(1000, 1)) > 0 {
		rate.SetInt64(1000)
	}
	delay := new(big.Rat).SetInt64(max(int64(r.Interval), 0))
	for range min(times, 99) {
		delay.Mul(delay, rate)
	}
	whole := new(big.Int).Quo(delay.Num(), delay.Denom())
	most := big.NewInt(api.MaxDelay)
	if r.MaxDelay > 0 && r.MaxDelay < api.MaxDelay {
		most.SetInt64(int64(r.MaxDelay))
	}
	if whole.Cmp(most) > 0 {
		return most.Int64()
	}
	return whole.Int64()
}

func modelCatch(l []api.Catcher, name string) given {
	all := [][]string{}
	for _, c := range l {
		all = append(all, c.Errors)
	}
	i := modelFirst(all, name)
	if i < 0 {
		return given{}
	}
	return given{i, 0, true}
}

// modelCharge grows the list one number at a time.
func modelCharge(charged []int, place int) []int {
	next := append([]int{}, charged...)
	for place < 65536 && len(next) <= place {
		next = append(next, 0)
	}
	for i, n := range next {
		if i != place {
			continue
		}
		if n < 0 {
			n = 0
		}
		if n+1 > n {
			n++
		}
		next[i] = n
	}
	return next
}
