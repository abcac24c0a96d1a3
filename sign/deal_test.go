package sign

import (
	"math"
	"slices"
	"testing"

	"threshold/api"
)

func TestDealExample1(t *testing.T) {
	g, shares, e := Deal(2, 3, []uint64{5, 7})
	if e != api.OK || g.T != 2 || g.N != 3 || !slices.Equal(g.Commits, []uint64{1024, 16384}) || !slices.Equal(shares, []uint64{12, 19, 26}) {
		t.Errorf("P2: Deal(2, 3, 5, 7) = %v, %v, %d", g, shares, e)
	}
}

func TestDealAllSizes(t *testing.T) {
	for n := 2; n <= api.MaxN; n++ {
		for threshold := 2; threshold <= n; threshold++ {
			coeffs := scatter(uint64(10*n+threshold), threshold)
			g, shares, e := Deal(threshold, n, coeffs)
			if e != api.OK || g.T != threshold || g.N != n || len(g.Commits) != threshold || len(shares) != n {
				t.Errorf("P2: Deal(%d, %d, %v) = %v, %v, %d", threshold, n, coeffs, g, shares, e)
				continue
			}
			for k, c := range coeffs {
				if g.Commits[k] != toTheG(c) {
					t.Errorf("P2: Deal(%d, %d, %v): commitment %d = %d, want %d", threshold, n, coeffs, k, g.Commits[k], toTheG(c))
				}
			}
			for i, s := range shares {
				if want := reckonValue(coeffs, int64(i+1)); s != want {
					t.Errorf("P2: Deal(%d, %d, %v): share %d = %d, want %d", threshold, n, coeffs, i+1, s, want)
				}
			}
		}
	}
}

func TestDealEdges(t *testing.T) {
	const q = api.Q
	nine := []uint64{1, 2, 3, 4, 5, 6, 7, 8, 9}
	for _, c := range []struct {
		t, n   int
		coeffs []uint64
		want   api.Errno
	}{
		{1, 3, []uint64{5}, api.ErrCount}, // example 3
		{1, 3, []uint64{5, 7}, api.ErrCount},
		{1, 1, []uint64{5}, api.ErrCount},
		{2, 2, []uint64{5, 7}, api.OK},
		{2, 1, []uint64{5, 7}, api.ErrCount},
		{3, 3, []uint64{5, 7, 9}, api.OK},
		{4, 3, []uint64{5, 7, 9, 11}, api.ErrCount},
		{2, 9, []uint64{5, 7}, api.OK},
		{2, 10, []uint64{5, 7}, api.ErrCount},
		{9, 9, nine, api.OK},
		{10, 10, append(slices.Clone(nine), 10), api.ErrCount},
		{3, 4, []uint64{5, 7}, api.ErrCount},
		{3, 4, []uint64{5, 7, 9, 11}, api.ErrCount},
		{2, 3, nil, api.ErrCount},
		{0, 0, nil, api.ErrCount},
		{0, 3, nil, api.ErrCount},
		{-1, 3, nil, api.ErrCount},
		{math.MinInt, math.MaxInt, []uint64{5, 7}, api.ErrCount},
		{math.MaxInt, math.MaxInt, []uint64{5, 7}, api.ErrCount},
		{2, math.MinInt, []uint64{5, 7}, api.ErrCount},
		{2, 3, []uint64{q - 1, q - 1}, api.OK},
		{2, 3, []uint64{q, 7}, api.ErrScalar},
		{2, 3, []uint64{5, q}, api.ErrScalar},
		{2, 3, []uint64{5, q + 7}, api.ErrScalar},
		{2, 3, []uint64{math.MaxUint64, 7}, api.ErrScalar},
		{3, 3, []uint64{5, 7, math.MaxUint64}, api.ErrScalar},
		{2, 3, []uint64{0, 7}, api.ErrScalar}, // example 3
		{2, 3, []uint64{5, 0}, api.OK},
		{3, 3, []uint64{1, 0, 0}, api.OK},
		{1, 3, []uint64{0}, api.ErrCount},
		{2, 10, []uint64{0, q}, api.ErrCount},
		{2, 3, []uint64{q}, api.ErrCount},
	} {
		g, shares, e := Deal(c.t, c.n, c.coeffs)
		if e != c.want {
			t.Errorf("P2: Deal(%d, %d, %v): error %d, want %d", c.t, c.n, c.coeffs, e, c.want)
		}
		if e != api.OK && (g.T != 0 || g.N != 0 || len(g.Commits) != 0 || len(shares) != 0) {
			t.Errorf("P1: Deal(%d, %d, %v) = %v, %v beside error %d", c.t, c.n, c.coeffs, g, shares, e)
		}
		if e == api.OK && (len(g.Commits) != c.t || len(shares) != c.n) {
			t.Errorf("P2: Deal(%d, %d, %v) = %v, %v", c.t, c.n, c.coeffs, g, shares)
		}
	}
}
