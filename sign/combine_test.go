package sign

import (
	"math"
	"testing"

	"threshold/api"
)

func TestCombineExample2(t *testing.T) {
	for _, c := range []struct {
		ids    []int
		shares []uint64
		want   uint64
		e      api.Errno
	}{
		{[]int{1, 2}, []uint64{12, 19}, 5, api.OK},
		{[]int{1, 3}, []uint64{12, 26}, 5, api.OK},
		{[]int{2, 1}, []uint64{19, 12}, 0, api.ErrOrder},
		{nil, nil, 0, api.ErrLength},
	} {
		if s, e := Combine(c.ids, c.shares); s != c.want || e != c.e {
			t.Errorf("P4: Combine(%v, %v) = %d, %d, want %d, %d", c.ids, c.shares, s, e, c.want, c.e)
		}
	}
}

func TestCombineDealtShares(t *testing.T) {
	const n = api.MaxN
	for threshold := 2; threshold <= n; threshold++ {
		coeffs := scatter(uint64(threshold), threshold)
		_, all, _ := Deal(threshold, n, coeffs)
		for _, ids := range subsets(n) {
			shares := sharesOf(ids, all)
			s, e := Combine(ids, shares)
			if e != api.OK || s != reckonCombine(ids, shares) {
				t.Errorf("P4: Combine(%v, %v) = %d, %d, want %d", ids, shares, s, e, reckonCombine(ids, shares))
			}
			if len(ids) >= threshold && s != coeffs[0] {
				t.Errorf("P4: %v of threshold %d come to %d, want the first coefficient, %d", ids, threshold, s, coeffs[0])
			}
		}
	}
}

func TestCombineEdges(t *testing.T) {
	const q = api.Q
	nine, ten := []int{1, 2, 3, 4, 5, 6, 7, 8, 9}, []int{1, 2, 3, 4, 5, 6, 7, 8, 9, 10}
	for _, c := range []struct {
		ids    []int
		shares []uint64
		want   uint64
		e      api.Errno
	}{
		{[]int{}, []uint64{}, 0, api.ErrLength},
		{nil, []uint64{1}, 0, api.ErrLength},
		{[]int{1}, nil, 0, api.ErrLength},
		{[]int{1, 2}, []uint64{12}, 0, api.ErrLength},
		{[]int{1, 2}, []uint64{12, 19, 26}, 0, api.ErrLength},
		{[]int{0}, []uint64{q, q}, 0, api.ErrLength},
		{nine, []uint64{7, 7, 7, 7, 7, 7, 7, 7, 7}, 7, api.OK},
		{nine, []uint64{7, 7, 7, 7, 7, 7, 7, 7}, 0, api.ErrLength},
		{ten, []uint64{7, 7, 7, 7, 7, 7, 7, 7, 7, 7}, 0, api.ErrLength},
		{make([]int, 1000), make([]uint64, 1000), 0, api.ErrLength},
		{[]int{0}, []uint64{7}, 0, api.ErrID},
		{[]int{1}, []uint64{7}, 7, api.OK},
		{[]int{9}, []uint64{7}, 7, api.OK},
		{[]int{10}, []uint64{7}, 0, api.ErrID},
		{[]int{-1}, []uint64{7}, 0, api.ErrID},
		{[]int{math.MinInt}, []uint64{7}, 0, api.ErrID},
		{[]int{math.MaxInt}, []uint64{7}, 0, api.ErrID},
		{[]int{1, 10}, []uint64{7, 7}, 0, api.ErrID},
		{[]int{8, 9}, []uint64{7, 7}, 7, api.OK},
		{[]int{2, 2}, []uint64{7, 7}, 0, api.ErrOrder},
		{[]int{3, 2}, []uint64{7, 7}, 0, api.ErrOrder},
		{[]int{1, 3, 3}, []uint64{7, 7, 7}, 0, api.ErrOrder},
		{[]int{1, 3, 2}, []uint64{7, 7, 7}, 0, api.ErrOrder},
		{[]int{5}, []uint64{0}, 0, api.OK},
		{[]int{5}, []uint64{q - 1}, q - 1, api.OK},
		{[]int{5}, []uint64{q}, 0, api.ErrScalar},
		{[]int{5}, []uint64{math.MaxUint64}, 0, api.ErrScalar},
		{[]int{1, 2}, []uint64{12, q}, 0, api.ErrScalar},
		{[]int{1, 2}, []uint64{q - 1, q - 1}, q - 1, api.OK},
		{[]int{1, 2}, []uint64{0, 1}, q - 1, api.OK},
	} {
		if s, e := Combine(c.ids, c.shares); s != c.want || e != c.e {
			t.Errorf("P4: Combine(%v, %v) = %d, %d, want %d, %d", c.ids, c.shares, s, e, c.want, c.e)
		}
	}
}

// One number and its share are looked at whole ahead of the next ones: what is wrong further ahead is told first.
func TestCombineTellsTheFirstFault(t *testing.T) {
	const q = api.Q
	for _, c := range []struct {
		ids    []int
		shares []uint64
		want   api.Errno
	}{
		{[]int{0}, []uint64{q}, api.ErrID},
		{[]int{2, 0}, []uint64{7, q}, api.ErrID},
		{[]int{2, 1}, []uint64{7, q}, api.ErrOrder},
		{[]int{2, 2}, []uint64{7, q}, api.ErrOrder},
		{[]int{2, 0}, []uint64{q, 7}, api.ErrScalar},
		{[]int{2, 1}, []uint64{q, 7}, api.ErrScalar},
		{[]int{2, 1, 10}, []uint64{7, 7, 7}, api.ErrOrder},
		{[]int{1, 10, 2}, []uint64{7, 7, 7}, api.ErrID},
	} {
		if s, e := Combine(c.ids, c.shares); s != 0 || e != c.want {
			t.Errorf("P1: Combine(%v, %v) = %d, %d, want 0, %d", c.ids, c.shares, s, e, c.want)
		}
	}
}
