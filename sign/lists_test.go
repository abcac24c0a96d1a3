package sign

import (
	"math"
	"slices"
	"strings"
	"testing"

	"threshold/api"
)

// roomy: a list with memory behind its end, which a call could write to unseen.
func roomy[T any](list []T, behind T) []T {
	out := append(slices.Clone(list), behind, behind)
	return out[:len(list):len(out)]
}

func sameWithRoom[T comparable](list, was []T, behind T) bool {
	return slices.Equal(list[:len(list)+2], append(slices.Clone(was), behind, behind))
}

func TestListsAreOnlyRead(t *testing.T) {
	for _, was := range [][]uint64{{5, 7}, {0, 7}, {api.Q, 7}, {5, api.Q}, {5}} {
		coeffs := roomy(was, 99)
		Deal(2, 3, coeffs)
		if !sameWithRoom(coeffs, was, 99) {
			t.Errorf("P1: Deal makes %v of %v", coeffs[:len(coeffs)+2], was)
		}
	}
	for _, was := range [][]uint64{{1024, 16384}, {1, 4}, {4, 2}, {4}} {
		g := api.Group{T: 2, N: 3, Commits: roomy(was, 99)}
		for id := range 5 {
			Check(g, id, 12)
			Check(g, id, api.Q)
		}
		if !sameWithRoom(g.Commits, was, 99) {
			t.Errorf("P1: Check makes %v of %v", g.Commits[:len(g.Commits)+2], was)
		}
	}
	for _, was := range [][]int{{1, 2}, {1, 3}, {2, 1}, {0, 1}, {4}} {
		ids, shares := roomy(was, 99), roomy([]uint64{12, 19}, 99)
		Combine(ids, shares)
		if !sameWithRoom(ids, was, 99) || !sameWithRoom(shares, []uint64{12, 19}, 99) {
			t.Errorf("P1: Combine makes %v and %v of %v and 12, 19", ids, shares, was)
		}
	}
	for _, was := range [][]api.Commit{nil, {{ID: 1, D: 4, E: 16}}, {{ID: -1, D: math.MaxUint64, E: 1 << 40}, {}}} {
		behind := api.Commit{ID: 99, D: 99, E: 99}
		l := roomy(was, behind)
		Pack(l)
		if !sameWithRoom(l, was, behind) {
			t.Errorf("P1: Pack makes %v of %v", l[:len(l)+2], was)
		}
	}
}

func TestListsAreNotKept(t *testing.T) {
	coeffs := []uint64{5, 7}
	g, shares, _ := Deal(2, 3, coeffs)
	clear(coeffs)
	if !slices.Equal(g.Commits, []uint64{1024, 16384}) || !slices.Equal(shares, []uint64{12, 19, 26}) {
		t.Errorf("P1: Deal's answer changes with its list: %v, %v", g, shares)
	}
	clear(shares[:cap(shares)])
	if !slices.Equal(g.Commits, []uint64{1024, 16384}) {
		t.Errorf("P1: Deal's two lists share memory: %v", g)
	}
	again, _, _ := Deal(2, 3, []uint64{5, 7})
	clear(g.Commits[:cap(g.Commits)])
	if !slices.Equal(again.Commits, []uint64{1024, 16384}) {
		t.Errorf("P1: two answers of Deal share memory: %v", again)
	}

	own, e := newGroup(again)
	if e != api.OK {
		t.Fatal(e)
	}
	again.Commits[0], again.Commits[1] = 4, 4
	if got := uint64(own.public(1)); got != toTheG(12) {
		t.Errorf("P1: a group keeps the list that was handed in: public share %d, want %d", got, toTheG(12))
	}
	if ok, _ := Check(again, 1, 12); ok {
		t.Error("P1: Check answers for a list that is there no more")
	}
	if ok, _ := Check(again, 1, 2); !ok {
		t.Error("P1: Check does not answer for the list as it is now")
	}
}

func TestBytesAreNotKept(t *testing.T) {
	l := rising(3)
	s := Pack(l)
	was := strings.Clone(s)
	clear(l)
	Pack(rising(3)[:2])
	if s != was {
		t.Errorf("P1: Pack's answer changes with its list: % x", s)
	}
	first, _ := Unpack(s)
	second, _ := Unpack(s)
	clear(first[:cap(first)])
	if !slices.Equal(second, rising(3)) {
		t.Errorf("P1: two answers of Unpack share memory: %v", second)
	}
	if third, e := Unpack(s); e != api.OK || !slices.Equal(third, rising(3)) || s != was {
		t.Errorf("P1: Unpack answers %v, %d behind a change to an answer", third, e)
	}
}

// No answer of a call may hang on the calls ahead of it.
func TestErrorsChangeNothing(t *testing.T) {
	g, shares, _ := Deal(2, 3, []uint64{5, 7})
	Deal(1, 3, []uint64{5})
	Deal(2, 3, []uint64{0, 7})
	Check(g, 0, 12)
	Check(api.Group{}, 1, 12)
	Combine([]int{2, 1}, shares[:2])
	Unpack(packedOne + packedOne)
	Unpack("x")
	Verify(1, "m", api.Sig{})
	if ok, e := Check(g, 1, shares[0]); !ok || e != api.OK {
		t.Errorf("P1: Check = %v, %d behind errors", ok, e)
	}
	if s, e := Combine([]int{1, 2}, shares[:2]); s != 5 || e != api.OK {
		t.Errorf("P1: Combine = %d, %d behind errors", s, e)
	}
	if l, e := Unpack(packedNine); e != api.OK || !slices.Equal(l, []api.Commit{{ID: 9, D: 64, E: 4}}) {
		t.Errorf("P1: Unpack = %v, %d behind errors", l, e)
	}
	if key, s := sigBy(5, 7, "m"); !Verify(key, "m", s) {
		t.Error("P1: Verify = false behind errors")
	}
}

var (
	wildInts  = []int{math.MinInt, -1, 0, 1, 2, 3, 9, 10, math.MaxInt}
	wildLists = [][]uint64{
		nil, {}, {0}, {1}, {4}, {math.MaxUint64},
		{4, 16}, {1, 4}, {0, 0}, {api.Q - 1, api.Q}, {api.P, api.P + 4}, {math.MaxUint64, math.MaxUint64},
		{4, 16, 64}, {4, 4, 4, 4, 4, 4, 4, 4, 4}, {4, 4, 4, 4, 4, 4, 4, 4, 4, 4}, make([]uint64, 5000),
	}
	wildNumbers = []uint64{0, 1, 12, api.Q - 1, api.Q, api.P, math.MaxUint64}
)

func TestNoPanicAtWildNumbers(t *testing.T) {
	for _, a := range wildInts {
		for _, b := range wildInts {
			for _, list := range wildLists {
				g, shares, e := Deal(a, b, list)
				if e != api.OK && (g.T != 0 || g.N != 0 || len(g.Commits) != 0 || len(shares) != 0) {
					t.Errorf("P1: Deal(%d, %d, %v) = %v, %v beside error %d", a, b, list, g, shares, e)
				}
				for _, id := range wildInts {
					for _, share := range wildNumbers {
						g := api.Group{T: a, N: b, Commits: list}
						ok, e := Check(g, id, share)
						if ok && e != api.OK {
							t.Errorf("P1: Check(%d, %d, %v, %d, %d) = true beside error %d", a, b, list, id, share, e)
						}
						want := e
						if e == api.OK && !ok {
							want = api.ErrShare
						}
						if s, e := NewSigner(g, id, share); e != want || (s != nil) != ok {
							t.Errorf("P7: NewSigner(%v, %d, %d) = %v, %d, want %d", g, id, share, s, e, want)
						}
					}
				}
			}
		}
	}
	idLists := [][]int{nil, {}, {1, 2, 3, 4, 5, 6, 7, 8, 9}, {9, 8, 7}, {1, 2, 3, 4, 5, 6, 7, 8, 9, 10}, make([]int, 5000)}
	for _, a := range wildInts {
		idLists = append(idLists, []int{a})
		for _, b := range wildInts {
			idLists = append(idLists, []int{a, b})
		}
	}
	for _, ids := range idLists {
		for _, list := range wildLists {
			if s, e := Combine(ids, list); s != 0 && e != api.OK {
				t.Errorf("P1: Combine(%v, %v) = %d beside error %d", ids, list, s, e)
			}
		}
	}
}

func TestNoPanicAtWildBytesAndSignatures(t *testing.T) {
	for _, id := range wildInts {
		for _, d := range wildNumbers {
			for _, e := range wildNumbers {
				s := Pack([]api.Commit{{ID: id, D: d, E: e}})
				if len(s) != 9 {
					t.Errorf("P5: Pack of {%d %d %d} = % x", id, d, e, s)
				}
				if l, e := Unpack(s); e != api.OK && len(l) != 0 {
					t.Errorf("P1: Unpack(% x) = %v beside error %d", s, l, e)
				}
			}
		}
	}
	for length := range 200 {
		for _, b := range []string{"\x00", "\x01", "\x04", "\x7f", "\xff"} {
			s := strings.Repeat(b, length)
			if l, e := Unpack(s); e != api.OK && len(l) != 0 {
				t.Errorf("P1: Unpack(% x) = %v beside error %d", s, l, e)
			}
		}
	}
	for _, key := range wildNumbers {
		for _, r := range wildNumbers {
			for _, z := range wildNumbers {
				for _, m := range []string{"", "m", "\xff\x00", strings.Repeat("\x80", 5000)} {
					if Verify(key, m, api.Sig{R: r, Z: z}) {
						t.Errorf("P6: Verify(%d, %.20q, {%d %d}) = true", key, m, r, z)
					}
				}
			}
		}
	}
}
