package sign

import (
	"math/big"

	"threshold/api"
)

// What the document says, reckoned once more by math/big and straight from its words, to hold the program against.

func toTheG(x uint64) uint64 {
	return new(big.Int).Exp(big.NewInt(api.G), new(big.Int).SetUint64(x), big.NewInt(api.P)).Uint64()
}

func reckonValue(coeffs []uint64, x int64) uint64 {
	sum := new(big.Int)
	for k, c := range coeffs {
		part := new(big.Int).Exp(big.NewInt(x), big.NewInt(int64(k)), nil)
		sum.Add(sum, part.Mul(part, new(big.Int).SetUint64(c)))
	}
	return sum.Mod(sum, big.NewInt(api.Q)).Uint64()
}

func reckonCombine(ids []int, shares []uint64) uint64 {
	q := big.NewInt(api.Q)
	sum := new(big.Int)
	for k, i := range ids {
		part := new(big.Int).SetUint64(shares[k])
		for _, j := range ids {
			if j != i {
				below := big.NewInt(int64(j - i))
				part.Mul(part, big.NewInt(int64(j)))
				part.Mul(part, below.ModInverse(below.Mod(below, q), q))
			}
		}
		sum.Add(sum, part)
	}
	return sum.Mod(sum, q).Uint64()
}

// scatter: numbers from all over the scalars, the same ones each time; none is 0.
func scatter(seed uint64, count int) []uint64 {
	out := make([]uint64, count)
	for i := range out {
		seed = seed*6364136223846793005 + 1442695040888963407
		out[i] = 1 + seed>>33%(api.Q-1)
	}
	return out
}

// subsets: every choice of some of the numbers 1 to n, rising; not the empty one.
func subsets(n int) [][]int {
	var out [][]int
	for bits := 1; bits < 1<<n; bits++ {
		var one []int
		for i := range n {
			if bits>>i&1 == 1 {
				one = append(one, i+1)
			}
		}
		out = append(out, one)
	}
	return out
}

func sharesOf(ids []int, shares []uint64) []uint64 {
	var out []uint64
	for _, id := range ids {
		out = append(out, shares[id-1])
	}
	return out
}
