package dec

import "voyage/api"

const (
	ratePlaces = 9 // places behind the point that count of a rate
	mostRate   = 1000
	mostTries  = 100
)

// Delay tells how long the k-th retry waits: P1.7.
func Delay(interval int64, rate api.Dec, k int, most int64) int64 {
	if most < 1 || most > api.MaxDelay {
		most = api.MaxDelay
	}
	wait, limit, factor := Of(max(interval, 0)), Of(most), countedRate(rate)
	for range min(max(k, 1), mostTries) - 1 {
		if Cmp(wait, limit) >= 0 { // the factor is at least 1: it never falls below again
			return most
		}
		wait, _ = Mul(wait, factor) // below 2^31 times 1000, with at most 9 more places each time: far from an exponent's bounds
	}
	whole, fits := Floor(wait)
	if !fits || whole > most {
		return most
	}
	return whole
}

// countedRate is the rate as it counts: from 1 to 1000, with nine places behind the point.
func countedRate(rate api.Dec) api.Dec {
	n := Norm(rate)
	if Cmp(n, Of(1)) < 0 {
		return Of(1)
	}
	if Cmp(n, Of(mostRate)) >= 0 { // ahead of cutting: what is left may lie beyond an exponent's bound
		return Of(mostRate)
	}
	if n.Exp < -ratePlaces { // it is 1 or more, so that a digit ahead of the point is left
		n.Digits = n.Digits[:top(n)+ratePlaces]
		n.Exp = -ratePlaces
	}
	return Norm(n)
}
