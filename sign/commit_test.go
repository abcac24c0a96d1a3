package sign

import (
	"math"
	"sync"
	"testing"

	"threshold/api"
)

// wantCommit asks for a commitment, or an error beside none, and for how many pairs are kept behind it.
func wantCommit(t *testing.T, s *Signer, d, e uint64, want api.Errno, left int) {
	t.Helper()
	c, errno := s.Commit(d, e)
	expected := api.Commit{}
	if want == api.OK {
		expected = api.Commit{ID: s.id, D: toTheG(d), E: toTheG(e)}
	}
	if c != expected || errno != want || s.Left() != left {
		t.Errorf("P8: Commit(%d, %d) = %v, %d; %d left; want %v, %d; %d left", d, e, c, errno, s.Left(), expected, want, left)
	}
}

func TestCommitExample5(t *testing.T) {
	one, three := signerOf(t, 1), signerOf(t, 3)
	if c, e := one.Commit(1, 2); c != (api.Commit{ID: 1, D: 4, E: 16}) || e != api.OK {
		t.Errorf("P8: Commit(1, 2) = %v, %d", c, e)
	}
	if c, e := one.Commit(1, 2); c != (api.Commit{}) || e != api.ErrPair {
		t.Errorf("P8: Commit(1, 2) once more = %v, %d", c, e)
	}
	if c, e := one.Commit(0, 1); c != (api.Commit{}) || e != api.ErrScalar {
		t.Errorf("P8: Commit(0, 1) = %v, %d", c, e)
	}
	if c, e := three.Commit(3, 4); c != (api.Commit{ID: 3, D: 64, E: 256}) || e != api.OK {
		t.Errorf("P8: Commit(3, 4) = %v, %d", c, e)
	}
	if one.Left() != 1 || three.Left() != 1 {
		t.Errorf("P8: %d and %d left, want 1 and 1", one.Left(), three.Left())
	}
}

func TestCommitExample10(t *testing.T) {
	s := signerOf(t, 1)
	for k := range uint64(6) {
		wantCommit(t, s, k+1, k+2, api.OK, int(k)+1)
	}
	wantCommit(t, s, 7, 8, api.ErrFull, 6)
	if _, e := s.Sign("m", []api.Commit{{ID: 1, D: toTheG(3), E: toTheG(4)}, {ID: 3, D: 64, E: 256}}); e != api.OK || s.Left() != 5 {
		t.Fatalf("P9: Sign: error %d; %d left", e, s.Left())
	}
	wantCommit(t, s, 7, 8, api.OK, 6)
	wantCommit(t, s, 3, 4, api.ErrFull, 6)
}

func TestCommitScalars(t *testing.T) {
	const q = api.Q
	fit := []uint64{1, 2, q / 2, q - 1}
	unfit := []uint64{0, q, q + 1, 2 * q, 2*q + 1, api.P, 1 << 32, math.MaxUint64}
	for _, good := range fit {
		for _, other := range fit {
			s := signerOf(t, 2)
			wantCommit(t, s, good, other, api.OK, 1)
		}
		for _, bad := range unfit {
			s := signerOf(t, 2)
			wantCommit(t, s, bad, good, api.ErrScalar, 0)
			wantCommit(t, s, good, bad, api.ErrScalar, 0)
		}
	}
	for _, bad := range unfit {
		for _, worse := range unfit {
			wantCommit(t, signerOf(t, 2), bad, worse, api.ErrScalar, 0)
		}
	}
}

func TestCommitPairsThatDiffer(t *testing.T) {
	s := signerOf(t, 2)
	for k, p := range [][2]uint64{{5, 6}, {5, 7}, {6, 5}, {5, 5}, {4, 6}, {api.Q - 5, api.Q - 6}} {
		wantCommit(t, s, p[0], p[1], api.OK, k+1)
		wantCommit(t, s, p[0], p[1], api.ErrPair, k+1)
		wantCommit(t, s, 5, 6, api.ErrPair, k+1)
	}
}

// A full signer still tells what is wrong with the pair itself.
func TestCommitTellsTheFirstFault(t *testing.T) {
	s := signerOf(t, 1, [2]uint64{1, 1}, [2]uint64{2, 2}, [2]uint64{3, 3}, [2]uint64{4, 4}, [2]uint64{5, 5}, [2]uint64{6, 6})
	for range 3 {
		wantCommit(t, s, 1, 1, api.ErrPair, 6)
		wantCommit(t, s, 6, 6, api.ErrPair, 6)
		wantCommit(t, s, 1, 6, api.ErrFull, 6)
		wantCommit(t, s, 7, 7, api.ErrFull, 6)
		wantCommit(t, s, 0, 7, api.ErrScalar, 6)
		wantCommit(t, s, 7, 0, api.ErrScalar, 6)
		wantCommit(t, s, 1, api.Q+1, api.ErrScalar, 6)
		wantCommit(t, s, api.Q+1, 1, api.ErrScalar, 6)
	}
}

// Nothing is shared: not by signers of one group, not by two who are the same signer of it.
func TestSignersDoNotHangOnEachOther(t *testing.T) {
	one, same, two := signerOf(t, 1), signerOf(t, 1), signerOf(t, 2)
	for k := range uint64(6) {
		wantCommit(t, one, k+1, k+1, api.OK, int(k)+1)
	}
	wantCommit(t, one, 7, 7, api.ErrFull, 6)
	wantCommit(t, two, 1, 1, api.OK, 1)
	if same.Left() != 0 {
		t.Errorf("P8: a signer keeps %d pairs of another's", same.Left())
	}
	l := []api.Commit{{ID: 1, D: 4, E: 4}, {ID: 2, D: 4, E: 4}}
	if _, e := same.Sign("m", l); e != api.ErrMine {
		t.Errorf("P9: a signer signs with another's pair: %d", e)
	}
	wantCommit(t, same, 1, 1, api.OK, 1)
	if _, e := one.Sign("m", l); e != api.OK || one.Left() != 5 || same.Left() != 1 || two.Left() != 1 {
		t.Errorf("P9: Sign: %d; %d, %d and %d left, want 5, 1 and 1", e, one.Left(), same.Left(), two.Left())
	}
	first, e := same.Sign("m", l)
	if first == 0 || e != api.OK || same.Left() != 0 || two.Left() != 1 {
		t.Errorf("P9: Sign = %d, %d; %d and %d left, want 0 and 1", first, e, same.Left(), two.Left())
	}
}

func TestCommitBySeveralAtATime(t *testing.T) {
	for range 20 {
		s := signerOf(t, 3)
		answers := make([]api.Errno, 80) // pair k%10 is asked for by eight
		var wg sync.WaitGroup
		for k := range answers {
			wg.Go(func() {
				x := uint64(k%10 + 1)
				_, answers[k] = s.Commit(x, x+1)
				if left := s.Left(); left < 1 || left > 6 {
					t.Errorf("P8: %d left", left)
				}
			})
		}
		wg.Wait()
		kept := [10]int{}
		all := 0
		for k, e := range answers {
			if e == api.OK {
				kept[k%10]++
				all++
			} else if e != api.ErrPair && e != api.ErrFull {
				t.Errorf("P8: error %d", e)
			}
		}
		for k, count := range kept {
			if count > 1 {
				t.Errorf("P8: pair %d is taken %d times", k, count)
			}
		}
		if all != 6 || s.Left() != 6 {
			t.Errorf("P8: %d pairs are taken; %d left", all, s.Left())
		}
	}
}
