package sign

import (
	"fmt"
	"math"
	"runtime"
	"slices"
	"strings"
	"sync"
	"testing"
	"time"

	"threshold/api"
)

// job: what Aggregate is asked.
type job struct {
	g       api.Group
	message string
	l       []api.Commit
	shares  []uint64
}

// jobOf: a group of which some have signed, each with a pair of its own; all shares are right.
func jobOf(size [2]int, ids []int, message string, seed uint64) job {
	g, secrets, _ := Deal(size[0], size[1], scatter(seed, size[0]))
	return jobBy(g, secrets, ids, message, seed)
}

func jobBy(g api.Group, secrets []uint64, ids []int, message string, seed uint64) job {
	j := job{g: g, message: message}
	var words []*reckonSigner
	for _, id := range ids {
		word := &reckonSigner{g: g, id: id, share: secrets[id-1]}
		x := scatter(seed+uint64(id), 2)
		c, _ := word.commit(x[0], x[1])
		j.l, words = append(j.l, c), append(words, word)
	}
	for _, word := range words {
		z, _ := word.sign(message, j.l)
		j.shares = append(j.shares, z)
	}
	return j
}

// exampleJob: the two signers of example 5 have signed a message.
func exampleJob(message string) job {
	j := job{g: groupOf(2, 3, 1024, 16384), message: message, l: exampleList()}
	for k, secret := range []uint64{12, 26} {
		d := uint64(2*k + 1)
		word := &reckonSigner{g: j.g, id: j.l[k].ID, share: secret, pairs: [][2]uint64{{d, d + 1}}}
		z, _ := word.sign(message, j.l)
		j.shares = append(j.shares, z)
	}
	return j
}

// String tells no more of long lists and texts than can be read.
func (j job) String() string {
	return fmt.Sprintf("%v, %.20q, %d: %v, %d: %v", j.g, j.message, len(j.l), j.l[:min(len(j.l), 9)], len(j.shares), j.shares[:min(len(j.shares), 9)])
}

func (j job) ids() []int {
	var out []int
	for _, c := range j.l {
		out = append(out, c.ID)
	}
	return out
}

// with: the same job with other shares.
func (j job) with(shares ...uint64) job {
	j.shares = shares
	return j
}

func (j job) wantError(t *testing.T, want api.Errno) {
	t.Helper()
	if s, wrong, e := Aggregate(j.g, j.message, j.l, j.shares); s != (api.Sig{}) || len(wrong) != 0 || e != want {
		t.Errorf("P10: Aggregate(%v) = %v, %v, %d, want error %d alone", j, s, wrong, e, want)
	}
}

func (j job) wantWrong(t *testing.T, want ...int) {
	t.Helper()
	if s, wrong, e := Aggregate(j.g, j.message, j.l, j.shares); s != (api.Sig{}) || !slices.Equal(wrong, want) || e != api.ErrSigners {
		t.Errorf("P10: Aggregate(%v) = %v, %v, %d, want ErrSigners and %v", j, s, wrong, e, want)
	}
}

// wantSig: a signature that holds for the message, and for no other.
func (j job) wantSig(t *testing.T) api.Sig {
	t.Helper()
	want, _, _ := reckonAggregate(j.g, j.message, j.l, j.shares)
	s, wrong, e := Aggregate(j.g, j.message, j.l, j.shares)
	if s != want || len(wrong) != 0 || e != api.OK {
		t.Errorf("P10: Aggregate(%v) = %v, %v, %d, want %v", j, s, wrong, e, want)
	}
	key := j.g.Commits[0]
	if !Verify(key, j.message, s) || Verify(key, j.message+"x", s) {
		t.Errorf("P10: Aggregate(%v) = %v, which Verify does not take, or takes for another message", j, s)
	}
	return s
}

func (j job) wantWords(t *testing.T) api.Errno {
	t.Helper()
	want, wantWrong, wantE := reckonAggregate(j.g, j.message, j.l, j.shares)
	if s, wrong, e := Aggregate(j.g, j.message, j.l, j.shares); s != want || !slices.Equal(wrong, wantWrong) || e != wantE {
		t.Errorf("P10: Aggregate(%v) = %v, %v, %d, want %v, %v, %d", j, s, wrong, e, want, wantWrong, wantE)
	}
	return wantE
}

func TestAggregateExamples6And7(t *testing.T) {
	l := exampleList()
	g, secrets, _ := Deal(2, 3, []uint64{5, 7})
	var shares []uint64
	for k, c := range l {
		s, _ := NewSigner(g, c.ID, secrets[c.ID-1])
		if got := mustCommit(t, s, uint64(2*k+1), uint64(2*k+2)); got != c {
			t.Fatalf("P8: Commit = %v, want %v", got, c)
		}
		z, e := s.Sign("m", l)
		if e != api.OK {
			t.Fatalf("P9: Sign: %d", e)
		}
		shares = append(shares, z)
	}
	s, wrong, e := Aggregate(g, "m", l, shares)
	if len(wrong) != 0 || e != api.OK || !Verify(1024, "m", s) {
		t.Errorf("P10: Aggregate = %v, %v, %d", s, wrong, e)
	}
	if want := (api.Sig{R: reckonR(1024, "m", l), Z: (shares[0] + shares[1]) % api.Q}); s != want {
		t.Errorf("P10: Aggregate = %v, want %v", s, want)
	}
	s, wrong, e = Aggregate(g, "m", l, []uint64{shares[1], shares[0]})
	if s != (api.Sig{}) || !slices.Equal(wrong, []int{1, 3}) || e != api.ErrSigners {
		t.Errorf("P10: with the shares changed for each other Aggregate = %v, %v, %d", s, wrong, e)
	}
}

func TestAggregateGroupsThatAreNone(t *testing.T) {
	good := exampleJob("m")
	for _, g := range groupsThatAreNone() {
		if reckonIsGroup(g) {
			t.Fatalf("%v is a group", g)
		}
		for _, l := range [][]api.Commit{good.l, nil, good.l[:1], {{ID: 3, D: 1, E: 1}, {ID: 0}}} {
			for _, shares := range [][]uint64{good.shares, nil, {1}, {api.Q, math.MaxUint64}} {
				job{g, "m", l, shares}.wantError(t, api.ErrGroup)
				job{g, "ihnasie", l, shares}.wantError(t, api.ErrGroup)
			}
		}
	}
}

func TestAggregateErrorsOfThePackage(t *testing.T) {
	const p = api.P
	one, three := exampleList()[0], exampleList()[1]
	two, four := api.Commit{ID: 2, D: 4, E: 4}, api.Commit{ID: 4, D: 4, E: 4}
	low := func(id int) api.Commit { return api.Commit{ID: id, D: 4, E: 4} }
	type row struct {
		l    []api.Commit
		want api.Errno
	}
	rows := []row{
		{nil, api.ErrFew},
		{[]api.Commit{}, api.ErrFew},
		{[]api.Commit{one}, api.ErrFew},
		{[]api.Commit{low(0)}, api.ErrFew},
		{[]api.Commit{{ID: 1, D: 1, E: 1}}, api.ErrFew},
		{[]api.Commit{one, two, three, four}, api.ErrFew},
		{[]api.Commit{three, three, three, three}, api.ErrFew},
		{make([]api.Commit, 5000), api.ErrFew},
		{[]api.Commit{low(0), three}, api.ErrID},
		{[]api.Commit{low(-1), three}, api.ErrID},
		{[]api.Commit{low(math.MinInt), three}, api.ErrID},
		{[]api.Commit{one, four}, api.ErrID},
		{[]api.Commit{one, low(9)}, api.ErrID},
		{[]api.Commit{one, low(257)}, api.ErrID},
		{[]api.Commit{one, low(math.MaxInt)}, api.ErrID},
		{[]api.Commit{one, two, four}, api.ErrID},
		{[]api.Commit{one, low(0)}, api.ErrID},
		{[]api.Commit{one, one}, api.ErrOrder},
		{[]api.Commit{three, one}, api.ErrOrder},
		{[]api.Commit{one, three, three}, api.ErrOrder},
		{[]api.Commit{one, three, two}, api.ErrOrder},
		{[]api.Commit{two, one, four}, api.ErrOrder},
		{[]api.Commit{one, four, two}, api.ErrID},
		{[]api.Commit{four, one, one}, api.ErrID},
		{[]api.Commit{{ID: 1, D: 1, E: 16}, four}, api.ErrID},
		{[]api.Commit{{ID: 3, D: 2, E: 2}, one}, api.ErrOrder},
	}
	for _, x := range []uint64{0, 1, 2, p - 4, p - 1, p, p + 1, p + 4, p + 64, 2*p + 64, 1 << 32, 1<<32 + 64, math.MaxUint64} {
		rows = append(rows,
			row{[]api.Commit{one, {ID: 3, D: x, E: 256}}, api.ErrElement},
			row{[]api.Commit{one, {ID: 3, D: 64, E: x}}, api.ErrElement},
			row{[]api.Commit{one, {ID: 2, D: x, E: x}, three}, api.ErrElement},
			row{[]api.Commit{{ID: 1, D: x, E: 16}, three}, api.ErrElement},
			row{[]api.Commit{{ID: 1, D: 4, E: x}, three}, api.ErrElement})
	}
	good := exampleJob("m")
	for _, message := range []string{"m", "", "ihnasie"} {
		for _, c := range rows {
			for _, shares := range [][]uint64{good.shares, nil, {1}, {api.Q, api.Q}, {1, 2, 3}, {1, 2, 3, 4}, make([]uint64, 5000)} {
				job{good.g, message, c.l, shares}.wantError(t, c.want)
			}
		}
	}
	good.wantSig(t)
}

// All counts of commitments and of shares, at and about the edges of a group.
func TestAggregateCounts(t *testing.T) {
	g, secrets, _ := Deal(4, 6, scatter(46, 4))
	zeros := append(slices.Clone(secrets), 0, 0, 0, 0)
	for count := range 10 {
		j := job{g: g, message: "m", l: rising(9)[:count]}
		if count >= 1 && count <= 6 {
			j = jobBy(g, secrets, []int{1, 2, 3, 4, 5, 6}[:count], "m", 46)
		}
		right := j.shares
		for given := range 11 {
			j := j.with(zeros[:min(given, len(zeros))]...)
			switch {
			case count < 4 || count > 6:
				j.wantError(t, api.ErrFew)
			case given != count:
				j.wantError(t, api.ErrLength)
			default:
				j.wantWrong(t, j.ids()...)
				j.with(right...).wantSig(t)
			}
		}
	}
}

func TestAggregateLengths(t *testing.T) {
	for _, message := range []string{"m", "ihnasie"} { // ErrLength is told ahead of ErrZero
		j := exampleJob(message)
		for _, shares := range [][]uint64{nil, {}, {0}, {12}, {api.Q}, {12, 26, 0}, {api.Q, api.Q, api.Q}, make([]uint64, 9), make([]uint64, 5000)} {
			j.with(shares...).wantError(t, api.ErrLength)
		}
	}
	j := exampleJob("m")
	j.with(j.shares[:1]...).wantError(t, api.ErrLength)
	j.with(j.shares[1:]...).wantError(t, api.ErrLength)
	j.with(append(slices.Clone(j.shares), 0)...).wantError(t, api.ErrLength)
	j.with(append([]uint64{0}, j.shares...)...).wantError(t, api.ErrLength)
}

// Messages that were looked for: the commitment of all is 1, whatever the shares are.
func TestAggregateCommitmentOfAllIsOne(t *testing.T) {
	three := []api.Commit{{ID: 1, D: 4, E: 16}, {ID: 2, D: 1024, E: 4096}, {ID: 3, D: 64, E: 256}}
	for _, c := range []struct {
		message string
		l       []api.Commit
	}{{"ihnasie", exampleList()}, {"hxsorqa", three}} {
		if r := reckonR(1024, c.message, c.l); r != 1 {
			t.Fatalf("the commitment of all is %d, for %q", r, c.message)
		}
		for _, x := range []uint64{0, 1, 12, api.Q - 1, api.Q, math.MaxUint64} {
			job{groupOf(2, 3, 1024, 16384), c.message, c.l, slices.Repeat([]uint64{x}, len(c.l))}.wantError(t, api.ErrZero)
		}
	}
	// What would be right shares if an R of 1 were let through.
	l := exampleList()
	var shares []uint64
	for k, secret := range []uint64{12, 26} {
		nonce := reckonZ(uint64(2*k+1), uint64(2*k+2), reckonFactor(l[k].ID, 1024, "ihnasie", l))
		shares = append(shares, reckonZ(nonce, reckonZ(0, secret, reckonWeight(l[k].ID, l)), reckonChallenge(1, 1024, "ihnasie")))
		if !reckonRight(groupOf(2, 3, 1024, 16384), "ihnasie", l, l[k], shares[k]) {
			t.Fatalf("share %d is not right", shares[k])
		}
	}
	job{groupOf(2, 3, 1024, 16384), "ihnasie", l, shares}.wantError(t, api.ErrZero)
}

func TestAggregateTogether(t *testing.T) {
	messages := []string{"", "m", "\x00", "\xff\xfe m", "größer 語", strings.Repeat("long ", 2000)}
	seed := uint64(0)
	for _, size := range [][2]int{{2, 2}, {2, 3}, {3, 5}, {5, 5}} {
		for _, ids := range subsets(size[1]) {
			for _, m := range messages {
				seed += 100
				if len(ids) >= size[0] {
					jobOf(size, ids, m, seed).wantSig(t)
				}
			}
		}
	}
	all := []int{1, 2, 3, 4, 5, 6, 7, 8, 9}
	for _, ids := range [][]int{{1, 2}, {1, 9}, {8, 9}, {4, 5, 6}, {2, 3, 4, 5, 6, 7, 8, 9}, all} {
		jobOf([2]int{2, 9}, ids, "nine", uint64(29*ids[0])).wantSig(t)
	}
	jobOf([2]int{9, 9}, all, "all of nine", 99).wantSig(t)
	jobOf([2]int{8, 9}, all[1:], "", 98).wantSig(t)
}

// spoilings: what may stand in a right share's place, and is wrong.
func spoilings(share uint64) []uint64 {
	out := []uint64{(share + 1) % api.Q, (share + api.Q - 1) % api.Q, share + api.Q, share + 2*api.Q, api.Q, api.P, 1 << 32, 1 << 63, math.MaxUint64}
	if share != 0 {
		out = append(out, 0, api.Q-share)
	}
	return out
}

func TestAggregateEachChoiceOfWrongShares(t *testing.T) {
	for _, c := range []struct {
		size [2]int
		ids  []int
	}{{[2]int{2, 2}, []int{1, 2}}, {[2]int{2, 3}, []int{1, 3}}, {[2]int{2, 3}, []int{2, 3}}, {[2]int{3, 9}, []int{2, 5, 7, 9}}, {[2]int{5, 6}, []int{1, 2, 4, 5, 6}}} {
		j := jobOf(c.size, c.ids, "m", uint64(c.size[1]))
		j.wantSig(t)
		for kind := range spoilings(1) {
			for _, places := range subsets(len(c.ids)) {
				shares := slices.Clone(j.shares)
				var want []int
				for _, at := range places {
					shares[at-1] = spoilings(shares[at-1])[kind]
					want = append(want, c.ids[at-1])
				}
				j.with(shares...).wantWrong(t, want...)
			}
		}
	}
	nine := jobOf([2]int{9, 9}, []int{1, 2, 3, 4, 5, 6, 7, 8, 9}, "m", 9)
	for _, want := range subsets(9) {
		shares := slices.Clone(nine.shares)
		for _, id := range want {
			shares[id-1] = spoilings(shares[id-1])[id]
		}
		nine.with(shares...).wantWrong(t, want...)
	}
}

// Wrong shares that come to a right sum are wrong all the same.
func TestAggregateWrongSharesThatCancel(t *testing.T) {
	for _, size := range [][2]int{{2, 3}, {3, 5}, {2, 9}} {
		j := jobOf(size, []int{1, 2, 3}, "m", uint64(size[1]))
		x := scatter(uint64(size[1]), 1)[0]
		a, b, c := j.shares[0], j.shares[1], j.shares[2]
		j.with((a+1)%api.Q, b, (c+api.Q-1)%api.Q).wantWrong(t, 1, 3)
		j.with((a+x)%api.Q, (b+api.Q-x)%api.Q, c).wantWrong(t, 1, 2)
		j.with(a, (b+2*x)%api.Q, (c+2*api.Q-2*x)%api.Q).wantWrong(t, 2, 3)
		j.with(reckonZ(a, b, 1), 0, c).wantWrong(t, 1, 2)
		j.with(0, 0, reckonZ(reckonZ(a, b, 1), c, 1)).wantWrong(t, 1, 2, 3)
		j.with(b, a, c).wantWrong(t, 1, 2)
		j.with(a, c, b).wantWrong(t, 2, 3)
		j.with(c, b, a).wantWrong(t, 1, 3)
		j.with(b, c, a).wantWrong(t, 1, 2, 3)
		j.with(a, b, c).wantSig(t)
	}
}

// Messages that were looked for: a share, the sum, a factor or the challenge is at an edge.
func TestAggregateAtTheEdgesOfScalars(t *testing.T) {
	for _, c := range []struct {
		message string
		share   uint64
	}{{"yjnvbkb", 0}, {"fmqmpdb", api.Q - 1}} {
		j := exampleJob(c.message)
		if j.shares[0] != c.share {
			t.Fatalf("the share is %d, not %d", j.shares[0], c.share)
		}
		j.wantSig(t)
		for _, other := range spoilings(c.share) {
			j.with(other, j.shares[1]).wantWrong(t, 1)
		}
	}
	for _, c := range []struct {
		message string
		sum     uint64
	}{{"fefmwbe", 0}, {"qaeebxc", api.Q - 1}} {
		if s := exampleJob(c.message).wantSig(t); s.Z != c.sum {
			t.Errorf("P10: Z is %d, want %d", s.Z, c.sum)
		}
	}
	for _, message := range []string{"ffxzrvf", "gkodyra"} { // a factor 0, a challenge 0
		j := exampleJob(message)
		j.wantSig(t)
		j.with(j.shares[0]+1, j.shares[1]).wantWrong(t, 1)
		j.with(j.shares[1], j.shares[0]).wantWrong(t, 1, 3)
	}
}

// Groups in which a public share or a commitment is 1.
func TestAggregateWithSharesThatAreZero(t *testing.T) {
	negative, secrets := groupOf(2, 3, toTheG(api.Q-2), 4), []uint64{api.Q - 1, 0, 1}
	flat, same := groupOf(2, 3, toTheG(77), 1), []uint64{77, 77, 77}
	for _, ids := range [][]int{{1, 2}, {1, 3}, {2, 3}, {1, 2, 3}} {
		for _, j := range []job{jobBy(negative, secrets, ids, "m", 5), jobBy(flat, same, ids, "", 6)} {
			j.wantSig(t)
			shares := slices.Clone(j.shares)
			shares[1] = (shares[1] + 1) % api.Q
			j.with(shares...).wantWrong(t, ids[1])
		}
	}
}

// Shares that were made for another message, or for a list with another pair, among ones that are right.
func TestAggregateSharesOfAnotherPackage(t *testing.T) {
	ids := []int{1, 2, 4, 5}
	g, secrets, _ := Deal(3, 5, scatter(35, 3))
	j := jobBy(g, secrets, ids, "m", 35)
	otherPair := jobBy(g, secrets, ids, "m", 36)
	otherMessage := jobBy(g, secrets, ids, "n", 35)
	otherSecrets := jobBy(g, []uint64{1, 2, 3, 4, 5}, ids, "m", 35)
	fewer := jobBy(g, secrets, ids[:3], "m", 35)
	if !slices.Equal(j.l, otherMessage.l) || slices.Equal(j.l, otherPair.l) {
		t.Fatal("the commitments are not those that were meant")
	}
	for _, other := range []job{otherPair, otherMessage, otherSecrets} {
		for _, places := range subsets(len(ids)) {
			shares := slices.Clone(j.shares)
			var want []int
			for _, at := range places {
				shares[at-1] = other.shares[at-1]
				want = append(want, ids[at-1])
			}
			j.with(shares...).wantWrong(t, want...)
		}
	}
	j.with(append(slices.Clone(fewer.shares), j.shares[3])...).wantWrong(t, 1, 2, 4)

	for at, id := range ids { // one commitment changed: it binds the shares of all
		changed := j
		changed.l = slices.Clone(j.l)
		changed.l[at] = otherPair.l[at]
		changed.wantWrong(t, ids...)
		changed.l[at] = api.Commit{ID: id, D: j.l[at].E, E: j.l[at].D}
		changed.wantWrong(t, ids...)
	}
	changed := j
	changed.message = "n"
	changed.wantWrong(t, ids...)
	otherGroup, _, _ := Deal(3, 5, scatter(36, 3))
	changed = j
	changed.g = otherGroup
	changed.wantWrong(t, ids...)
	j.wantSig(t)
}

// A group of the same key with another polynomial: only the public shares differ.
func TestAggregateAsksTheWholeGroup(t *testing.T) {
	j := jobBy(groupOf(2, 3, 1024, 16384), []uint64{12, 19, 26}, []int{1, 2, 3}, "m", 23)
	j.g = groupOf(2, 3, 1024, 4096)
	j.wantWrong(t, 1, 2, 3)
	j.g = groupOf(3, 3, 1024, 16384, 1)
	j.wantSig(t)
	j.g = groupOf(3, 9, 1024, 16384, 1)
	j.wantSig(t)
	// 5 + 7x and 5 + 9x - x·x are the same at 2 only (but for 0).
	j.g = groupOf(3, 3, 1024, toTheG(9), toTheG(api.Q-1))
	j.wantWrong(t, 1, 3)
}

// Many jobs, some of them spoilt, against the document's words.
func TestAggregateAgainstTheWords(t *testing.T) {
	seen := map[api.Errno]int{}
	for run := range uint64(800) {
		x := scatter(run, 20)
		n := 2 + int(x[0]>>4%8)
		size := [2]int{2 + int(x[1]>>4)%(n-1), n}
		choice := slices.DeleteFunc(subsets(n), func(ids []int) bool { return len(ids) < size[0] })
		j := jobOf(size, choice[x[2]>>4%uint64(len(choice))], strings.Repeat("m", int(x[3]>>4%4)), run)
		at := x[4] >> 4 % uint64(len(j.l))
		switch x[5] >> 4 % 12 {
		case 0:
			j.g.Commits[x[6]>>4%uint64(size[0])] = x[7] >> 4 % 5
		case 1:
			j.l[at].ID = int(x[6]>>4%14) - 2
		case 2:
			j.l[at].D = x[6] >> 4 % 5
		case 3:
			j.l[at].E = api.P - 2 + x[6]>>4%8
		case 4:
			j.l = slices.Delete(j.l, int(at), int(at)+1)
		case 5:
			j.shares = slices.Delete(j.shares, int(at), int(at)+1)
		case 6:
			j.l[0], j.l[at] = j.l[at], j.l[0]
		case 7:
			j.shares[0], j.shares[at] = j.shares[at], j.shares[0]
		case 8, 9:
			for k := range j.shares {
				j.shares[k] += x[8+k] >> 4 % 3
			}
		}
		seen[j.wantWords(t)]++
	}
	for _, e := range []api.Errno{api.OK, api.ErrGroup, api.ErrFew, api.ErrID, api.ErrOrder, api.ErrElement, api.ErrLength, api.ErrSigners} {
		if seen[e] < 10 {
			t.Errorf("answer %d is seen only %d times", e, seen[e])
		}
	}
}

func TestAggregateListsAreOnlyRead(t *testing.T) {
	behind := api.Commit{ID: 2, D: 4, E: 4}
	good := exampleJob("m")
	swapped := []uint64{good.shares[1], good.shares[0]}
	for _, commits := range [][]uint64{{1024, 16384}, {1, 4}, {4}} {
		for _, l := range [][]api.Commit{good.l, nil, good.l[:1], {good.l[1], good.l[0]}, {good.l[0], {ID: 3, D: 1, E: 2}}} {
			for _, shares := range [][]uint64{good.shares, swapped, {api.Q, math.MaxUint64}, {1}, nil} {
				for _, message := range []string{"m", "ihnasie"} {
					g := api.Group{T: 2, N: 3, Commits: roomy(commits, 99)}
					ownL, ownShares := roomy(l, behind), roomy(shares, 99)
					Aggregate(g, message, ownL, ownShares)
					if !sameWithRoom(g.Commits, commits, 99) || !sameWithRoom(ownL, l, behind) || !sameWithRoom(ownShares, shares, 99) {
						t.Errorf("P1: Aggregate makes %v, %v, %v of %v, %v, %v", g, ownL, ownShares, commits, l, shares)
					}
				}
			}
		}
	}
}

// Nothing is kept of a call, and no answer is another's memory.
func TestAggregateKeepsNothing(t *testing.T) {
	j := exampleJob("m")
	j.wantSig(t)
	bad := j.with(j.shares[1], j.shares[0])
	_, first, _ := Aggregate(bad.g, bad.message, bad.l, bad.shares)
	_, second, _ := Aggregate(bad.g, bad.message, bad.l, bad.shares)
	clear(first[:cap(first)])
	if !slices.Equal(second, []int{1, 3}) {
		t.Errorf("P1: two answers of Aggregate share memory: %v", second)
	}
	bad.wantWrong(t, 1, 3)
	j.wantSig(t)
	j.g.Commits[1] = 4096
	j.wantWrong(t, 1, 3)
	j.g.Commits[1] = 16384
	j.wantSig(t)
	j.l[1].E = 64
	j.wantWrong(t, 1, 3)
}

// Aggregate is asked by several at a time, for the same lists and for others: each answer is its own.
func TestAggregateBySeveralAtATime(t *testing.T) {
	all := []int{1, 2, 3, 4, 5, 6, 7, 8, 9}
	var wg sync.WaitGroup
	for kind := range uint64(8) {
		j := jobOf([2]int{3, 9}, all[kind%4:], strings.Repeat("m", int(kind)), kind)
		shares := slices.Clone(j.shares)
		at := kind % uint64(len(shares))
		shares[at] = (shares[at] + 1) % api.Q
		bad := j.with(shares...)
		for range 6 {
			wg.Go(func() {
				for range 10 {
					j.wantSig(t)
					bad.wantWrong(t, j.l[at].ID)
				}
			})
		}
	}
	wg.Wait()
}

// What a call has started has ended when it answers; a goroutine that has done its last may still take a moment to go.
func TestAggregateLeavesNothingRunning(t *testing.T) {
	before := runtime.NumGoroutine()
	j := jobOf([2]int{2, 9}, []int{1, 2, 3, 4, 5, 6, 7, 8, 9}, "m", 1)
	bad := j.with(make([]uint64, 9)...)
	for range 20 {
		j.wantSig(t)
		bad.wantWrong(t, j.ids()...)
	}
	for range 1000 {
		if runtime.NumGoroutine() <= before {
			return
		}
		time.Sleep(time.Millisecond)
	}
	t.Errorf("P10: %d goroutines run, %d ran ahead of it", runtime.NumGoroutine(), before)
}

func TestNoPanicAtWildShares(t *testing.T) {
	groups := []api.Group{groupOf(2, 3, 1024, 16384), groupOf(2, 9, 4, 1), groupOf(2, 2, 4, api.P-1)}
	lists := [][]api.Commit{nil, exampleList(), rising(9), rising(9)[:2], make([]api.Commit, 5000)}
	for _, id := range wildInts {
		for _, d := range wildNumbers {
			lists = append(lists, []api.Commit{{ID: id, D: d, E: 4}}, []api.Commit{{ID: 1, D: 4, E: 16}, {ID: id, D: 4, E: d}})
		}
	}
	for _, a := range wildInts {
		for _, b := range wildInts {
			for _, list := range wildLists {
				job{api.Group{T: a, N: b, Commits: list}, "m", exampleList(), list}.wantWords(t)
			}
		}
	}
	for _, g := range groups {
		for _, l := range lists {
			for _, shares := range wildLists {
				job{g, "\xff\x00", l, shares}.wantWords(t)
			}
		}
	}
}
