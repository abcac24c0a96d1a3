package sign

import (
	"math"
	"runtime"
	"slices"
	"strings"
	"sync"
	"sync/atomic"
	"testing"

	"threshold/api"
)

// exampleList: the commitments of example 5, to the pairs 1, 2 and 3, 4.
func exampleList() []api.Commit { return []api.Commit{{ID: 1, D: 4, E: 16}, {ID: 3, D: 64, E: 256}} }

func TestSignExample6(t *testing.T) {
	l := exampleList()
	one, three := signerOf(t, 1, [2]uint64{1, 2}), signerOf(t, 3, [2]uint64{3, 4})
	z1, e1 := one.Sign("m", l)
	z3, e3 := three.Sign("m", l)
	if e1 != api.OK || e3 != api.OK || one.Left() != 0 || three.Left() != 0 {
		t.Fatalf("P9: Sign: errors %d and %d; %d and %d left", e1, e3, one.Left(), three.Left())
	}
	if sig := (api.Sig{R: reckonR(1024, "m", l), Z: (z1 + z3) % api.Q}); !Verify(1024, "m", sig) {
		t.Errorf("P9: the shares %d and %d do not come to a signature", z1, z3)
	}
	for _, s := range []*Signer{one, three} {
		if z, e := s.Sign("m", l); z != 0 || e != api.ErrMine {
			t.Errorf("P9: Sign once more = %d, %d", z, e)
		}
	}
}

func TestSignExample8(t *testing.T) {
	s := signerOf(t, 1, [2]uint64{1, 2})
	one, three := exampleList()[0], exampleList()[1]
	for _, c := range []struct {
		l    []api.Commit
		want api.Errno
	}{
		{[]api.Commit{one}, api.ErrFew},
		{[]api.Commit{three, one}, api.ErrOrder},
		{[]api.Commit{one, {ID: 3, D: 1, E: 256}}, api.ErrElement},
		{[]api.Commit{{ID: 1, D: 16, E: 4}, three}, api.ErrMine},
	} {
		if z, e := s.Sign("m", c.l); z != 0 || e != c.want || s.Left() != 1 {
			t.Errorf("P9: Sign(m, %v) = %d, %d; %d left; want %d", c.l, z, e, s.Left(), c.want)
		}
	}
}

func TestSignErrors(t *testing.T) {
	const p = api.P
	one, three := exampleList()[0], exampleList()[1]
	two := api.Commit{ID: 2, D: 4, E: 4}
	four := api.Commit{ID: 4, D: 4, E: 4}
	low := func(id int) api.Commit { return api.Commit{ID: id, D: 4, E: 4} }
	type row struct {
		l    []api.Commit
		want api.Errno
	}
	rows := []row{
		{nil, api.ErrFew},
		{[]api.Commit{}, api.ErrFew},
		{[]api.Commit{three}, api.ErrFew},
		{[]api.Commit{one, two, three, four}, api.ErrFew},
		{[]api.Commit{one, two, three, three}, api.ErrFew},
		{make([]api.Commit, 5000), api.ErrFew},
		{[]api.Commit{low(0)}, api.ErrFew},
		{[]api.Commit{low(0), three}, api.ErrID},
		{[]api.Commit{low(-1), three}, api.ErrID},
		{[]api.Commit{low(math.MinInt), three}, api.ErrID},
		{[]api.Commit{one, four}, api.ErrID},
		{[]api.Commit{one, low(9)}, api.ErrID},
		{[]api.Commit{one, low(257)}, api.ErrID},
		{[]api.Commit{one, low(math.MaxInt)}, api.ErrID},
		{[]api.Commit{one, two, four}, api.ErrID},
		{[]api.Commit{one, low(0)}, api.ErrID},
		{[]api.Commit{one, one}, api.ErrOrder},
		{[]api.Commit{two, one}, api.ErrOrder},
		{[]api.Commit{one, three, three}, api.ErrOrder},
		{[]api.Commit{one, three, two}, api.ErrOrder},
		{[]api.Commit{two, one, four}, api.ErrOrder},
		{[]api.Commit{one, four, two}, api.ErrID},
		{[]api.Commit{four, one, one}, api.ErrID},
		{[]api.Commit{{ID: 1, D: 1, E: 16}, four}, api.ErrID},
		{[]api.Commit{{ID: 1}, one}, api.ErrOrder},
		{[]api.Commit{{ID: 3, D: 2, E: 2}, one}, api.ErrOrder},
		{[]api.Commit{{ID: 1, D: 1, E: 4}, three}, api.ErrElement}, // ahead of ErrMine
		{[]api.Commit{{ID: 2, D: 1, E: 4}, three}, api.ErrElement},
		{[]api.Commit{two, three}, api.ErrMine},
		{[]api.Commit{{ID: 1, D: 16, E: 4}, three}, api.ErrMine},
		{[]api.Commit{{ID: 1, D: 4, E: 4}, three}, api.ErrMine},
		{[]api.Commit{{ID: 1, D: 4, E: 64}, three}, api.ErrMine},
		{[]api.Commit{{ID: 1, D: 16, E: 16}, three}, api.ErrMine},
		{[]api.Commit{{ID: 1, D: p - 2, E: p - 2}, three}, api.ErrMine},
		{[]api.Commit{{ID: 2, D: 4, E: 16}, three}, api.ErrMine}, // one's own pair, at another's number
		{[]api.Commit{{ID: 1, D: 16, E: 4}, {ID: 2, D: 4, E: 16}, three}, api.ErrMine},
	}
	for _, x := range []uint64{0, 1, 2, p - 4, p - 1, p, p + 1, p + 4, p + 64, 2*p + 64, 1 << 32, 1<<32 + 64, math.MaxUint64} {
		rows = append(rows,
			row{[]api.Commit{one, {ID: 3, D: x, E: 256}}, api.ErrElement},
			row{[]api.Commit{one, {ID: 3, D: 64, E: x}}, api.ErrElement},
			row{[]api.Commit{one, {ID: 2, D: x, E: x}, three}, api.ErrElement},
			row{[]api.Commit{{ID: 1, D: x, E: 16}, three}, api.ErrElement},
			row{[]api.Commit{{ID: 1, D: 4, E: x}, three}, api.ErrElement})
	}
	s := signerOf(t, 1, [2]uint64{1, 2}, [2]uint64{9, 9})
	for _, message := range []string{"m", ""} {
		for _, c := range rows {
			if z, e := s.Sign(message, c.l); z != 0 || e != c.want || s.Left() != 2 {
				t.Errorf("P9: Sign(%q, %.9v) = %d, %d; %d left; want %d", message, c.l, z, e, s.Left(), c.want)
			}
		}
	}
	if z, e := s.Sign("m", exampleList()); z == 0 || e != api.OK || s.Left() != 1 {
		t.Errorf("P9: Sign = %d, %d behind errors; %d left", z, e, s.Left())
	}
}

// Counts at the edges of a group other than the example's.
func TestSignCounts(t *testing.T) {
	g, shares, _ := Deal(4, 6, scatter(46, 4))
	all := rising(api.MaxN)
	for count := range 10 {
		s, _ := NewSigner(g, 1, shares[0])
		l := slices.Clone(all[:count])
		mine := mustCommit(t, s, 8, 9)
		if count > 0 {
			l[0] = mine
		}
		want, left := api.ErrFew, 1
		if count >= 4 && count <= 6 {
			want, left = api.OK, 0
		}
		if _, e := s.Sign("m", l); e != want || s.Left() != left {
			t.Errorf("P9: of 4 of 6, %d sign: %d, want %d; %d left", count, e, want, s.Left())
		}
	}
}

// The commitment of all is 1 for one message in about Q; these were looked for.
func TestSignCommitmentOfAllIsOne(t *testing.T) {
	three := []api.Commit{{ID: 1, D: 4, E: 16}, {ID: 2, D: 1024, E: 4096}, {ID: 3, D: 64, E: 256}}
	pairs := [][2]uint64{{1, 2}, {5, 6}, {3, 4}}
	for _, c := range []struct {
		message string
		l       []api.Commit
	}{{"ihnasie", exampleList()}, {"hxsorqa", three}} {
		if r := reckonR(1024, c.message, c.l); r != 1 {
			t.Fatalf("the commitment of all is %d, for %q", r, c.message)
		}
		for _, commit := range c.l {
			s := signerOf(t, commit.ID)
			if z, e := s.Sign(c.message, c.l); z != 0 || e != api.ErrMine {
				t.Errorf("P9: without its pair, signer %d: Sign = %d, %d, want ErrMine", commit.ID, z, e)
			}
			mustCommit(t, s, pairs[commit.ID-1][0], pairs[commit.ID-1][1])
			if z, e := s.Sign(c.message, c.l); z != 0 || e != api.ErrZero || s.Left() != 1 {
				t.Errorf("P9: signer %d: Sign(%q) = %d, %d, want ErrZero; %d left", commit.ID, c.message, z, e, s.Left())
			}
			if z, e := s.Sign(c.message+"x", c.l); z == 0 || e != api.OK || s.Left() != 0 {
				t.Errorf("P9: signer %d: behind ErrZero Sign = %d, %d; %d left", commit.ID, z, e, s.Left())
			}
		}
	}
	if z, e := signerOf(t, 2, [2]uint64{1, 2}).Sign("ihnasie", exampleList()); z != 0 || e != api.ErrMine {
		t.Errorf("P9: signer 2, who is not among them: Sign = %d, %d, want ErrMine", z, e)
	}
}

// Messages that were looked for: with these a share, a factor or a challenge is at an edge, and it is a share like any other.
func TestSignSharesAtTheirEdges(t *testing.T) {
	l := exampleList()
	for _, c := range []struct {
		message string
		share   uint64
	}{{"yjnvbkb", 0}, {"fmqmpdb", api.Q - 1}} {
		s := signerOf(t, 1, [2]uint64{1, 2})
		if z, e := s.Sign(c.message, l); z != c.share || e != api.OK || s.Left() != 0 {
			t.Errorf("P9: Sign(%q) = %d, %d, want %d; %d left", c.message, z, e, c.share, s.Left())
		}
	}
	const noFactor, noChallenge = "ffxzrvf", "gkodyra"
	if reckonFactor(1, 1024, noFactor, l) != 0 || reckonChallenge(reckonR(1024, noChallenge, l), 1024, noChallenge) != 0 {
		t.Fatal("the factor or the challenge is not 0")
	}
	s := signerOf(t, 1, [2]uint64{1, 2})
	owed := reckonZ(0, 12, reckonWeight(1, l))
	if z, e := s.Sign(noFactor, l); z != reckonZ(1, owed, reckonChallenge(reckonR(1024, noFactor, l), 1024, noFactor)) || e != api.OK {
		t.Errorf("P9: with a factor 0 Sign = %d, %d", z, e)
	}
	mustCommit(t, s, 1, 2)
	if z, e := s.Sign(noChallenge, l); z != reckonZ(1, 2, reckonFactor(1, 1024, noChallenge, l)) || e != api.OK {
		t.Errorf("P9: with a challenge 0 Sign = %d, %d", z, e)
	}
}

// signTogether has some of a group's signers sign, and holds each share against the words, and all together against Verify.
func signTogether(t *testing.T, g api.Group, shares []uint64, ids []int, message string, seed uint64) {
	t.Helper()
	var signers []*Signer
	var words []*reckonSigner
	var l []api.Commit
	for _, id := range ids {
		s, e := NewSigner(g, id, shares[id-1])
		if e != api.OK {
			t.Fatalf("P7: NewSigner(%v, %d, %d): %d", g, id, shares[id-1], e)
		}
		x := scatter(seed+uint64(id), 4)
		word := &reckonSigner{g: g, id: id, share: shares[id-1], pairs: [][2]uint64{{x[0], x[1]}}}
		l = append(l, mustCommit(t, s, x[0], x[1]))
		mustCommit(t, s, x[2], x[3])
		signers, words = append(signers, s), append(words, word)
	}
	sum := uint64(0)
	for k, s := range signers {
		want, _ := words[k].sign(message, l)
		z, e := s.Sign(message, l)
		if z != want || e != api.OK || s.Left() != 1 {
			t.Errorf("P9: %v of %d of %d: signer %d: Sign(%.20q) = %d, %d, want %d; %d left", ids, g.T, g.N, s.id, message, z, e, want, s.Left())
		}
		if _, e := s.Sign(message+"!", l); e != api.ErrMine || s.Left() != 1 {
			t.Errorf("P9: signer %d: a second share with one pair: %d; %d left", s.id, e, s.Left())
		}
		sum = (sum + z) % api.Q
	}
	if sig := (api.Sig{R: reckonR(g.Commits[0], message, l), Z: sum}); !Verify(g.Commits[0], message, sig) {
		t.Errorf("P9: %v of %d of %d: the shares for %.20q do not come to a signature", ids, g.T, g.N, message)
	}
}

func TestSignTogether(t *testing.T) {
	messages := []string{"", "m", "\x00", "\xff\xfe m", "größer 語", strings.Repeat("long ", 2000)}
	seed := uint64(0)
	for _, size := range [][2]int{{2, 2}, {2, 3}, {3, 5}, {5, 5}} {
		g, shares, _ := Deal(size[0], size[1], scatter(uint64(10*size[0]+size[1]), size[0]))
		for _, ids := range subsets(size[1]) {
			if len(ids) < size[0] {
				continue
			}
			for _, m := range messages {
				seed += 100
				signTogether(t, g, shares, ids, m, seed)
			}
		}
	}
	g, shares, _ := Deal(2, 9, scatter(29, 2))
	for _, ids := range [][]int{{1, 2}, {1, 9}, {8, 9}, {4, 5, 6}, {1, 2, 3, 4, 5, 6, 7, 8, 9}} {
		signTogether(t, g, shares, ids, "nine", seed+uint64(100*ids[0]))
	}
	g, shares, _ = Deal(9, 9, scatter(99, 9))
	signTogether(t, g, shares, []int{1, 2, 3, 4, 5, 6, 7, 8, 9}, "all of nine", seed)
}

// A share of 0 is a signer's like any other: what is left of the answer are the nonces.
func TestSignWithShareZero(t *testing.T) {
	g := groupOf(2, 3, toTheG(api.Q-2), 4)
	signTogether(t, g, []uint64{api.Q - 1, 0, 1}, []int{1, 2}, "m", 5)
	signTogether(t, g, []uint64{api.Q - 1, 0, 1}, []int{1, 2, 3}, "", 6)
}

// A long run of calls, some right and some wrong, against the document's words: what one signer answers hangs on all that was kept before.
func TestSignerAgainstTheWords(t *testing.T) {
	seen := map[api.Errno]int{}
	for run := range 60 {
		g, shares, _ := Deal(2, 4, scatter(uint64(run), 2))
		id := run%4 + 1
		s, e := NewSigner(g, id, shares[id-1])
		if e != api.OK {
			t.Fatal(e)
		}
		word := &reckonSigner{g: g, id: id, share: shares[id-1]}
		for step := range 60 {
			x := scatter(uint64(1000*run+step), 12)
			if x[11]%2 == 0 {
				d, e := x[0]%5, x[1]%4 // few numbers: pairs come again
				want, wantE := word.commit(d, e)
				if c, errno := s.Commit(d, e); c != want || errno != wantE {
					t.Fatalf("P8: Commit(%d, %d) = %v, %d, want %v, %d", d, e, c, errno, want, wantE)
				}
				seen[wantE]++
			} else {
				l := someList(x, 4)
				want, wantE := word.sign("m", l)
				if z, errno := s.Sign("m", l); z != want || errno != wantE {
					t.Fatalf("P9: Sign(m, %v) = %d, %d, want %d, %d", l, z, errno, want, wantE)
				}
				seen[wantE]++
			}
			if s.Left() != len(word.pairs) {
				t.Fatalf("P8: %d left, want %d", s.Left(), len(word.pairs))
			}
		}
	}
	for _, e := range []api.Errno{api.OK, api.ErrScalar, api.ErrPair, api.ErrFull, api.ErrFew, api.ErrID, api.ErrOrder, api.ErrElement, api.ErrMine} {
		if seen[e] < 10 {
			t.Errorf("answer %d is seen only %d times", e, seen[e])
		}
	}
}

// someList: commitments of most of n signers, by small nonces; now and then one is spoilt.
func someList(x []uint64, n int) []api.Commit {
	var l []api.Commit
	for id := 1; id <= n; id++ {
		if x[id]%4 != 0 {
			l = append(l, api.Commit{ID: id, D: toTheG(1 + x[id]>>8%4), E: toTheG(1 + x[id]>>16%3)})
		}
	}
	if len(l) == 0 {
		return l
	}
	at := &l[x[10]%uint64(len(l))]
	switch x[9] % 12 {
	case 0:
		at.ID = int(x[8] % 7)
	case 1:
		at.D = x[8] % 4
	case 2:
		at.E = api.P + x[8]%5
	case 3:
		l[0], l[len(l)-1] = l[len(l)-1], l[0]
	}
	return l
}

func TestSignListsAreOnlyRead(t *testing.T) {
	behind := api.Commit{ID: 2, D: 4, E: 4}
	for _, was := range [][]api.Commit{exampleList(), nil, exampleList()[:1], {{ID: 3, D: 64, E: 256}, {ID: 1, D: 4, E: 16}}, {{ID: 1, D: 4, E: 16}, {ID: 3, D: 1, E: 2}}} {
		s := signerOf(t, 1, [2]uint64{1, 2})
		l := roomy(was, behind)
		s.Sign("m", l)
		if !sameWithRoom(l, was, behind) {
			t.Errorf("P1: Sign makes %v of %v", l[:len(l)+2], was)
		}
	}
	l := exampleList()
	b := newBundle(signerOf(t, 1).group, "m", l)
	r := commitmentOfAll(b.parts())
	clear(l)
	if !slices.Equal(b.list, exampleList()) || commitmentOfAll(b.parts()) != r || uint64(r) != reckonR(1024, "m", exampleList()) {
		t.Errorf("P1: a package changes with the list that was handed in: %v", b.list)
	}
}

// Each pair signs once, whoever asks, and for whatever message: the others are told ErrMine.
func TestSignBySeveralAtATime(t *testing.T) {
	const askers = 12
	for round := range 10 {
		s := signerOf(t, 2)
		var lists [6][]api.Commit
		for k := range lists {
			x := uint64(round + 10*k + 1)
			lists[k] = []api.Commit{mustCommit(t, s, x, x+1), {ID: 3, D: 64, E: 256}}
		}
		type answer struct {
			z uint64
			e api.Errno
		}
		var answers [6 * askers]answer
		var wg sync.WaitGroup
		for k := range answers {
			wg.Go(func() {
				message := strings.Repeat("m", k/6)
				answers[k].z, answers[k].e = s.Sign(message, lists[k%6])
				if left := s.Left(); left < 0 || left > 5 {
					t.Errorf("P8: %d left", left)
				}
			})
		}
		wg.Wait()
		signed := [6]int{}
		for k, a := range answers {
			x := uint64(round + 10*(k%6) + 1)
			word := &reckonSigner{g: groupOf(2, 3, 1024, 16384), id: 2, share: 19, pairs: [][2]uint64{{x, x + 1}}}
			want, _ := word.sign(strings.Repeat("m", k/6), lists[k%6])
			switch {
			case a.e == api.OK && a.z == want:
				signed[k%6]++
			case a.e != api.ErrMine || a.z != 0:
				t.Errorf("P9: Sign = %d, %d, want %d or ErrMine", a.z, a.e, want)
			}
		}
		if signed != [6]int{1, 1, 1, 1, 1, 1} || s.Left() != 0 {
			t.Errorf("P9: the pairs signed %v times; %d left", signed, s.Left())
		}
	}
}

// One pair is committed to and signed with, again and again, by all at once: a gap between looking for a pair and keeping or deleting it would show in the counts.
func TestEachCommitIsSignedWithOnce(t *testing.T) {
	l := exampleList()
	s := signerOf(t, 1)
	var committed, signed atomic.Int64
	var wg sync.WaitGroup
	for range 4 {
		wg.Go(func() {
			for range 10000 {
				if _, e := s.Commit(1, 2); e == api.OK {
					committed.Add(1)
				}
			}
		})
		wg.Go(func() {
			for range 10000 {
				if _, e := s.Sign("m", l); e == api.OK {
					signed.Add(1)
				}
			}
		})
	}
	wg.Wait()
	if committed.Load() != signed.Load()+int64(s.Left()) {
		t.Errorf("P9: %d times committed, %d times signed, %d left", committed.Load(), signed.Load(), s.Left())
	}
}

// No call looks at what is kept while another has it in hand.
func TestCallsWaitForEachOther(t *testing.T) {
	for name, call := range map[string]func(*Signer){
		"Commit": func(s *Signer) { s.Commit(3, 4) },
		"Left":   func(s *Signer) { s.Left() },
		"Sign":   func(s *Signer) { s.Sign("m", exampleList()) },
	} {
		s := signerOf(t, 1, [2]uint64{1, 2})
		done := make(chan struct{})
		s.mutex.Lock()
		go func() {
			call(s)
			close(done)
		}()
		for range 20000 { // turns enough for a call that does not wait
			runtime.Gosched()
		}
		select {
		case <-done:
			t.Errorf("P1: %s does not wait", name)
		default:
		}
		s.mutex.Unlock()
		<-done
	}
}

// Several signers at work at once, each asked by several: none hangs on another.
func TestSignersAtWorkAtOnce(t *testing.T) {
	g, shares, _ := Deal(3, 9, scatter(39, 3))
	others := rising(9)
	var wg sync.WaitGroup
	for id := 1; id <= 9; id++ {
		s, e := NewSigner(g, id, shares[id-1])
		if e != api.OK {
			t.Fatal(e)
		}
		for asker := range uint64(4) {
			wg.Go(func() {
				for k := range uint64(10) {
					d, e := 1+100*asker+k, 1+k
					c, errno := s.Commit(d, e)
					if errno != api.OK {
						t.Errorf("P8: signer %d: Commit(%d, %d): %d", id, d, e, errno)
						continue
					}
					l := slices.Clone(others)
					l[id-1] = c
					word := &reckonSigner{g: g, id: id, share: shares[id-1], pairs: [][2]uint64{{d, e}}}
					want, _ := word.sign("m", l)
					if z, errno := s.Sign("m", l); z != want || errno != api.OK {
						t.Errorf("P9: signer %d: Sign = %d, %d, want %d", id, z, errno, want)
					}
				}
			})
		}
	}
	wg.Wait()
}

func TestNoPanicAtWildPackages(t *testing.T) {
	s := signerOf(t, 1, [2]uint64{1, 2})
	word := &reckonSigner{g: groupOf(2, 3, 1024, 16384), id: 1, share: 12, pairs: [][2]uint64{{1, 2}}}
	for _, id := range wildInts {
		for _, other := range wildInts {
			for _, d := range wildNumbers {
				for _, e := range wildNumbers {
					for _, l := range [][]api.Commit{
						{{ID: id, D: d, E: e}},
						{{ID: id, D: d, E: e}, {ID: other, D: e, E: d}},
						{{ID: id, D: 4, E: 16}, {ID: other, D: d, E: e}},
						{{ID: 1, D: 4, E: 16}, {ID: id, D: d, E: e}, {ID: other, D: 4, E: 4}},
					} {
						want, wantE := word.sign("m", l)
						if z, errno := s.Sign("m", l); z != want || errno != wantE || s.Left() != len(word.pairs) {
							t.Fatalf("P9: Sign(m, %v) = %d, %d, want %d, %d; %d left", l, z, errno, want, wantE, s.Left())
						}
						if wantE == api.OK {
							mustCommit(t, s, 1, 2)
							word.commit(1, 2)
						}
					}
				}
			}
		}
	}
}
