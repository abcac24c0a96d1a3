package number

import "threshold/api"

// Scalar is from 0 to Q - 1. Two of them multiplied stay below 2 to the 60, so no product wraps round.
type Scalar uint64

// ScalarOf reads a number; one that is too great is refused, not reduced.
func ScalarOf(x uint64) (Scalar, bool) {
	if x >= api.Q {
		return 0, false
	}
	return Scalar(x), true
}

// NonzeroOf reads a scalar other than 0. Nonces must be one: G to the 0 is 1, which no commitment may be.
func NonzeroOf(x uint64) (Scalar, bool) {
	if x == 0 {
		return 0, false
	}
	return ScalarOf(x)
}

func (s Scalar) Plus(o Scalar) Scalar { return (s + o) % api.Q }

// Minus adds Q first: the numbers have no sign, and a difference below 0 would wrap round at 2 to the 64.
func (s Scalar) Minus(o Scalar) Scalar { return (s + api.Q - o) % api.Q }

func (s Scalar) Times(o Scalar) Scalar { return s * o % api.Q }

// Over takes o to the power of Q - 2 for its inverse: Q is a prime. Over 0 the answer is 0.
func (s Scalar) Over(o Scalar) Scalar {
	return s.Times(power(Scalar.Times, 1, o, api.Q-2))
}

// Powers are x to the 0, to the 1 and so on, as many as count.
func Powers(x Scalar, count int) []Scalar {
	out := make([]Scalar, count)
	next := Scalar(1)
	for k := range count {
		out[k] = next
		next = next.Times(x)
	}
	return out
}
