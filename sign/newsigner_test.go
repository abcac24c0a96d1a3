package sign

import (
	"math"
	"testing"

	"threshold/api"
)

// signerOf: a signer of example 1's group, who keeps some pairs.
func signerOf(t *testing.T, id int, pairs ...[2]uint64) *Signer {
	t.Helper()
	s, e := NewSigner(groupOf(2, 3, 1024, 16384), id, []uint64{12, 19, 26}[id-1])
	if s == nil || e != api.OK {
		t.Fatalf("P7: NewSigner(.., %d, ..) = %v, %d", id, s, e)
	}
	for _, p := range pairs {
		mustCommit(t, s, p[0], p[1])
	}
	return s
}

func mustCommit(t *testing.T, s *Signer, d, e uint64) api.Commit {
	t.Helper()
	c, errno := s.Commit(d, e)
	if errno != api.OK {
		t.Fatalf("P8: Commit(%d, %d): error %d", d, e, errno)
	}
	return c
}

func TestNewSignerOfDealtShares(t *testing.T) {
	for n := 2; n <= api.MaxN; n++ {
		for threshold := 2; threshold <= n; threshold++ {
			g, shares, _ := Deal(threshold, n, scatter(uint64(30*n+threshold), threshold))
			for i, share := range shares {
				s, e := NewSigner(g, i+1, share)
				if s == nil || e != api.OK || s.Left() != 0 {
					t.Errorf("P7: %d of %d: signer %d is refused, or keeps nonces: %d", threshold, n, i+1, e)
				}
				for _, other := range []uint64{(share + 1) % api.Q, (share + api.Q - 1) % api.Q, shares[(i+1)%n]} {
					if s, e := NewSigner(g, i+1, other); s != nil || e != api.ErrShare {
						t.Errorf("P7: %d of %d: signer %d with %d for %d: %v, %d", threshold, n, i+1, other, share, s, e)
					}
				}
			}
		}
	}
}

func TestNewSignerErrors(t *testing.T) {
	g := groupOf(2, 3, 1024, 16384)
	negative := groupOf(2, 3, toTheG(api.Q-2), 4) // shares -1, 0, 1
	for _, c := range []struct {
		g     api.Group
		id    int
		share uint64
		want  api.Errno
	}{
		{g, 1, 11, api.ErrShare},
		{g, 1, 12, api.OK},
		{g, 1, 13, api.ErrShare},
		{g, 3, 25, api.ErrShare},
		{g, 3, 26, api.OK},
		{g, 3, 27, api.ErrShare},
		{g, 2, 12, api.ErrShare},
		{g, 1, 0, api.ErrShare},
		{g, 1, api.Q - 1, api.ErrShare},
		{g, 0, 5, api.ErrID},
		{g, -1, 5, api.ErrID},
		{g, 4, 33, api.ErrID},
		{g, math.MaxInt, 5, api.ErrID},
		{g, math.MinInt, 5, api.ErrID},
		{g, 0, api.Q, api.ErrID},
		{g, 4, math.MaxUint64, api.ErrID},
		{g, 1, api.Q, api.ErrScalar},
		{g, 1, api.Q + 12, api.ErrScalar},
		{g, 1, math.MaxUint64, api.ErrScalar},
		{negative, 1, api.Q - 1, api.OK},
		{negative, 2, 0, api.OK},
		{negative, 2, api.Q, api.ErrScalar},
		{negative, 2, 1, api.ErrShare},
		{negative, 2, api.Q - 1, api.ErrShare},
		{negative, 3, 1, api.OK},
		{negative, 3, 0, api.ErrShare},
		{groupOf(2, 2, 1024, 16384), 2, 19, api.OK},
		{groupOf(2, 2, 1024, 16384), 3, 26, api.ErrID},
		{groupOf(2, 9, 1024, 16384), 9, 68, api.OK},
		{groupOf(2, 9, 1024, 16384), 10, 75, api.ErrID},
	} {
		s, e := NewSigner(c.g, c.id, c.share)
		if e != c.want || (s == nil) != (e != api.OK) {
			t.Errorf("P7: NewSigner(%v, %d, %d) = %v, %d, want %d", c.g, c.id, c.share, s, e, c.want)
		}
	}
}

func TestNewSignerGroupsThatAreNone(t *testing.T) {
	for _, g := range groupsThatAreNone() {
		for _, id := range []int{1, 0, 4} {
			for _, share := range []uint64{1, 2, api.Q} {
				if s, e := NewSigner(g, id, share); s != nil || e != api.ErrGroup {
					t.Errorf("P7: NewSigner(%v, %d, %d) = %v, %d, want ErrGroup", g, id, share, s, e)
				}
			}
		}
	}
}

func TestSignerKeepsNoListOfItsGroup(t *testing.T) {
	g := groupOf(2, 3, 1024, 16384)
	g.Commits = roomy(g.Commits, 99)
	s, e := NewSigner(g, 1, 12)
	if e != api.OK || !sameWithRoom(g.Commits, []uint64{1024, 16384}, 99) {
		t.Fatalf("P1: NewSigner makes %v of its group: %d", g, e)
	}
	clear(g.Commits)
	g.Commits[0], g.T, g.N = 4, 9, 1
	untouched := signerOf(t, 1, [2]uint64{1, 2})
	mustCommit(t, s, 1, 2)
	l := []api.Commit{{ID: 1, D: 4, E: 16}, {ID: 3, D: 64, E: 256}}
	z, e := s.Sign("m", l)
	want, wantE := untouched.Sign("m", l)
	if z != want || e != wantE || e != api.OK {
		t.Errorf("P1: behind a change of the group's list Sign = %d, %d, want %d, %d", z, e, want, wantE)
	}
}

// A Signer that nobody made stands in for none: it is no signer of any group.
func TestSignerThatNobodyMade(t *testing.T) {
	for _, s := range []*Signer{nil, new(Signer)} {
		if c, e := s.Commit(1, 2); c != (api.Commit{}) || e != api.ErrGroup || s.Left() != 0 {
			t.Errorf("P1: Commit = %v, %d; %d left", c, e, s.Left())
		}
		if z, e := s.Sign("m", rising(2)); z != 0 || e != api.ErrGroup {
			t.Errorf("P1: Sign = %d, %d", z, e)
		}
	}
}
