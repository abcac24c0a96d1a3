package number

import (
	"math"
	"math/big"
	"slices"
	"testing"

	"threshold/api"
)

// samples: the edges of the range, small numbers, and some from all over it.
func samples(below uint64) []uint64 {
	list := []uint64{0, 1, 2, 3, 4, 9, below / 2, below/2 + 1, below - 2, below - 1}
	x := uint64(12345)
	for range 20 {
		x = (x*1103515245 + 12345) % below
		list = append(list, x)
	}
	return list
}

func modulo(x *big.Int, m int64) uint64 { return x.Mod(x, big.NewInt(m)).Uint64() }

func TestTheGroupIsOne(t *testing.T) {
	if !big.NewInt(api.P).ProbablyPrime(20) || !big.NewInt(api.Q).ProbablyPrime(20) || api.P != 2*api.Q+1 {
		t.Error("P and Q are not the primes that the rest leans on")
	}
}

func TestScalarsAreReckonedModuloQ(t *testing.T) {
	for _, a := range samples(api.Q) {
		for _, b := range samples(api.Q) {
			x, y := new(big.Int).SetUint64(a), new(big.Int).SetUint64(b)
			if got, want := Scalar(a).Plus(Scalar(b)), modulo(new(big.Int).Add(x, y), api.Q); uint64(got) != want {
				t.Errorf("%d plus %d = %d, want %d", a, b, got, want)
			}
			if got, want := Scalar(a).Minus(Scalar(b)), modulo(new(big.Int).Sub(x, y), api.Q); uint64(got) != want {
				t.Errorf("%d minus %d = %d, want %d", a, b, got, want)
			}
			if got, want := Scalar(a).Times(Scalar(b)), modulo(new(big.Int).Mul(x, y), api.Q); uint64(got) != want {
				t.Errorf("%d times %d = %d, want %d", a, b, got, want)
			}
			if b == 0 {
				continue
			}
			inverse := new(big.Int).ModInverse(y, big.NewInt(api.Q))
			if got, want := Scalar(a).Over(Scalar(b)), modulo(inverse.Mul(inverse, x), api.Q); uint64(got) != want {
				t.Errorf("%d over %d = %d, want %d", a, b, got, want)
			}
		}
	}
}

func TestElementsAreReckonedModuloP(t *testing.T) {
	p := big.NewInt(api.P)
	for _, a := range samples(api.Q) {
		e := ToThe(Scalar(a))
		if want := new(big.Int).Exp(big.NewInt(api.G), new(big.Int).SetUint64(a), p).Uint64(); uint64(e) != want {
			t.Errorf("G to the %d = %d, want %d", a, e, want)
		}
		for _, b := range samples(api.Q) {
			x, y := new(big.Int).SetUint64(uint64(e)), new(big.Int).SetUint64(b)
			if got, want := e.Power(Scalar(b)), new(big.Int).Exp(x, y, p).Uint64(); uint64(got) != want {
				t.Errorf("%d to the %d = %d, want %d", e, b, got, want)
			}
			if got, want := e.Times(ToThe(Scalar(b))), ToThe(Scalar(a).Plus(Scalar(b))); got != want {
				t.Errorf("G to the %d times G to the %d = %d, want %d", a, b, got, want)
			}
		}
	}
}

func TestWhatIsAScalar(t *testing.T) {
	for _, x := range []uint64{0, 1, api.Q - 1} {
		if s, ok := ScalarOf(x); !ok || uint64(s) != x {
			t.Errorf("ScalarOf(%d) = %d, %v", x, s, ok)
		}
	}
	for _, x := range []uint64{api.Q, api.Q + 1, 1 << 32, math.MaxUint64} {
		if s, ok := ScalarOf(x); ok || s != 0 {
			t.Errorf("ScalarOf(%d) = %d, %v", x, s, ok)
		}
	}
}

func TestNonzeroScalars(t *testing.T) {
	for _, x := range []uint64{1, 2, api.Q - 1} {
		if s, ok := NonzeroOf(x); !ok || uint64(s) != x {
			t.Errorf("NonzeroOf(%d) = %d, %v", x, s, ok)
		}
	}
	for _, x := range []uint64{0, api.Q, api.Q + 1, 1 << 32, math.MaxUint64} {
		if s, ok := NonzeroOf(x); ok || s != 0 {
			t.Errorf("NonzeroOf(%d) = %d, %v", x, s, ok)
		}
	}
}

func TestWhatIsAnElement(t *testing.T) {
	for _, x := range samples(api.P) {
		s, ok := ElementOf(x)
		want := big.Jacobi(new(big.Int).SetUint64(x), big.NewInt(api.P)) == 1
		if ok != want || ok && uint64(s) != x || !ok && s != 0 {
			t.Errorf("ElementOf(%d) = %d, %v, want %v", x, s, ok, want)
		}
	}
	for _, x := range []uint64{0, 2, api.P - 1, api.P, api.P + 1, api.P + 4, 1 << 32, math.MaxUint64} {
		if s, ok := ElementOf(x); ok || s != 0 {
			t.Errorf("ElementOf(%d) = %d, %v", x, s, ok)
		}
	}
}

func TestTogether(t *testing.T) {
	if got := Together(Scalar.Plus, 0); got != 0 {
		t.Errorf("the sum of none = %d", got)
	}
	if got := Together(Element.Times, 1); got != 1 {
		t.Errorf("the product of none = %d", got)
	}
	if got := Together(Scalar.Plus, 0, api.Q-1, 3, 5); got != 7 {
		t.Errorf("-1 + 3 + 5 = %d", got)
	}
	if got := Together(Scalar.Minus, 10, 1, 2); got != 7 {
		t.Errorf("10 - 1 - 2 = %d: not from first to last", got)
	}
}

func TestLists(t *testing.T) {
	if got := Pairwise(Scalar.Times, []Scalar{2, 3, 4}, []Scalar{5, 7}); !slices.Equal(got, []Scalar{10, 21}) {
		t.Errorf("Pairwise = %v", got)
	}
	if got := Powers(3, 4); !slices.Equal(got, []Scalar{1, 3, 9, 27}) {
		t.Errorf("Powers(3, 4) = %v", got)
	}
	if got := Powers(3, 0); len(got) != 0 {
		t.Errorf("Powers(3, 0) = %v", got)
	}
	handed := []uint64{1, 2}
	read, ok := All(ScalarOf, handed)
	handed[0] = 9
	if !ok || !slices.Equal(read, []Scalar{1, 2}) {
		t.Errorf("All = %v, %v", read, ok)
	}
	out := Plain(read)
	read[0] = 9
	if !slices.Equal(out, []uint64{1, 2}) {
		t.Errorf("Plain = %v", out)
	}
	if read, ok := All(ScalarOf, []uint64{1, api.Q}); ok || read != nil {
		t.Errorf("All with one that is none = %v, %v", read, ok)
	}
}
