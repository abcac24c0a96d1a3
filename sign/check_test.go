package sign

import (
	"math"
	"sync"
	"testing"

	"threshold/api"
)

func groupOf(t, n int, commits ...uint64) api.Group {
	return api.Group{T: t, N: n, Commits: commits}
}

func TestCheckExample1(t *testing.T) {
	g := groupOf(2, 3, 1024, 16384)
	for _, c := range []struct {
		id    int
		share uint64
		ok    bool
		e     api.Errno
	}{{1, 12, true, api.OK}, {2, 19, true, api.OK}, {3, 26, true, api.OK}, {3, 25, false, api.OK}, {4, 33, false, api.ErrID}} {
		if ok, e := Check(g, c.id, c.share); ok != c.ok || e != c.e {
			t.Errorf("P3: Check(.., %d, %d) = %v, %d, want %v, %d", c.id, c.share, ok, e, c.ok, c.e)
		}
	}
}

func TestCheckDealtShares(t *testing.T) {
	for n := 2; n <= api.MaxN; n++ {
		for threshold := 2; threshold <= n; threshold++ {
			g, shares, _ := Deal(threshold, n, scatter(uint64(100*n+threshold), threshold))
			for i, s := range shares {
				if ok, e := Check(g, i+1, s); !ok || e != api.OK {
					t.Errorf("P3: %d of %d: share %d is refused: %d", threshold, n, i+1, e)
				}
				for _, other := range []uint64{(s + 1) % api.Q, (s + api.Q - 1) % api.Q, shares[(i+1)%n]} {
					if ok, e := Check(g, i+1, other); ok || e != api.OK {
						t.Errorf("P3: %d of %d: %d is taken for share %d (%d): %d", threshold, n, other, i+1, s, e)
					}
				}
			}
		}
	}
}

// groupsThatAreNone: each just past an edge of what a group is, or far out.
func groupsThatAreNone() []api.Group {
	return []api.Group{
		{},
		groupOf(1, 3, 4),
		groupOf(1, 3, 4, 16),
		groupOf(0, 3),
		groupOf(-1, 3),
		groupOf(2, 1, 4, 16),
		groupOf(2, 0, 4, 16),
		groupOf(2, -1, 4, 16),
		groupOf(3, 2, 4, 16, 64),
		groupOf(2, 10, 4, 16),
		groupOf(10, 10, 4, 4, 4, 4, 4, 4, 4, 4, 4, 4),
		groupOf(math.MaxInt, math.MaxInt, 4, 16),
		groupOf(math.MinInt, math.MinInt, 4, 16),
		groupOf(2, math.MaxInt, 4, 16),
		groupOf(2, 3),
		groupOf(2, 3, 4),
		groupOf(2, 3, 4, 16, 64),
		groupOf(2, 3, 1, 16),
		groupOf(2, 3, 0, 16),
		groupOf(2, 3, 2, 16),
		groupOf(2, 3, api.P-1, 16),
		groupOf(2, 3, api.P, 16),
		groupOf(2, 3, api.P+4, 16),
		groupOf(2, 3, 4, 0),
		groupOf(2, 3, 4, 2),
		groupOf(2, 3, 4, api.P-1),
		groupOf(2, 3, 4, api.P),
		groupOf(2, 3, 4, api.P+1),
		groupOf(3, 3, 4, 16, math.MaxUint64),
	}
}

func TestCheckGroupsThatAreNone(t *testing.T) {
	for _, g := range groupsThatAreNone() {
		for _, id := range []int{1, 0} {
			for _, share := range []uint64{1, api.Q} {
				if ok, e := Check(g, id, share); ok || e != api.ErrGroup {
					t.Errorf("P3: Check(%v, %d, %d) = %v, %d, want ErrGroup", g, id, share, ok, e)
				}
			}
		}
	}
}

func TestCheckGroupsAtTheEdge(t *testing.T) {
	for _, g := range []api.Group{
		groupOf(2, 2, 4, 16),
		groupOf(2, 9, 4, 16),
		groupOf(9, 9, 4, 4, 4, 4, 4, 4, 4, 4, 4),
		groupOf(2, 3, 4, 1),
		groupOf(3, 3, toTheG(api.Q-1), 1, toTheG(api.Q-1)),
	} {
		if _, e := Check(g, g.N, api.Q-1); e != api.OK {
			t.Errorf("P3: Check(%v, %d, Q - 1): error %d", g, g.N, e)
		}
	}
}

func TestCheckNumbersAndShares(t *testing.T) {
	g := groupOf(2, 3, 1024, 16384)
	negative := groupOf(2, 3, toTheG(api.Q-2), 4) // shares -1, 0, 1
	for _, c := range []struct {
		g     api.Group
		id    int
		share uint64
		ok    bool
		e     api.Errno
	}{
		{g, 0, 5, false, api.ErrID},
		{g, -1, 5, false, api.ErrID},
		{g, 4, 33, false, api.ErrID},
		{g, 9, 5, false, api.ErrID},
		{g, math.MaxInt, 5, false, api.ErrID},
		{g, math.MinInt, 5, false, api.ErrID},
		{g, 0, api.Q, false, api.ErrID},
		{g, 4, math.MaxUint64, false, api.ErrID},
		{g, 1, api.Q, false, api.ErrScalar},
		{g, 1, api.Q + 12, false, api.ErrScalar},
		{g, 3, math.MaxUint64, false, api.ErrScalar},
		{g, 1, api.Q - 1, false, api.OK},
		{g, 1, 0, false, api.OK},
		{negative, 1, api.Q - 1, true, api.OK},
		{negative, 2, 0, true, api.OK},
		{negative, 2, api.Q, false, api.ErrScalar},
		{negative, 3, 1, true, api.OK},
	} {
		if ok, e := Check(c.g, c.id, c.share); ok != c.ok || e != c.e {
			t.Errorf("P3: Check(%v, %d, %d) = %v, %d, want %v, %d", c.g, c.id, c.share, ok, e, c.ok, c.e)
		}
	}
}

func TestPublicSharesAskedBySeveralAtATime(t *testing.T) {
	plain, shares, _ := Deal(3, 9, scatter(7, 3))
	g, e := newGroup(plain)
	if e != api.OK {
		t.Fatal(e)
	}
	var wg sync.WaitGroup
	for round := range 4 {
		for i, s := range shares {
			wg.Go(func() {
				if got := uint64(g.public(i + 1)); got != toTheG(s) {
					t.Errorf("round %d: public share %d = %d, want %d", round, i+1, got, toTheG(s))
				}
			})
		}
	}
	wg.Wait()
}
