package sign

import (
	"encoding/binary"
	"hash/fnv"
	"math/big"
	"slices"

	"threshold/api"
)

// What the document says, reckoned once more by math/big and straight from its words, to hold the program against.

func toTheG(x uint64) uint64 {
	return new(big.Int).Exp(big.NewInt(api.G), new(big.Int).SetUint64(x), big.NewInt(api.P)).Uint64()
}

func reckonValue(coeffs []uint64, x int64) uint64 {
	sum := new(big.Int)
	for k, c := range coeffs {
		part := new(big.Int).Exp(big.NewInt(x), big.NewInt(int64(k)), nil)
		sum.Add(sum, part.Mul(part, new(big.Int).SetUint64(c)))
	}
	return sum.Mod(sum, big.NewInt(api.Q)).Uint64()
}

func reckonCombine(ids []int, shares []uint64) uint64 {
	q := big.NewInt(api.Q)
	sum := new(big.Int)
	for k, i := range ids {
		part := new(big.Int).SetUint64(shares[k])
		for _, j := range ids {
			if j != i {
				below := big.NewInt(int64(j - i))
				part.Mul(part, big.NewInt(int64(j)))
				part.Mul(part, below.ModInverse(below.Mod(below, q), q))
			}
		}
		sum.Add(sum, part)
	}
	return sum.Mod(sum, q).Uint64()
}

// reckonHash leans on the library: the document's hash is its FNV-1a, of 64 bits, modulo Q.
func reckonHash(tag byte, text string, numbers ...uint64) uint64 {
	h := fnv.New64a()
	h.Write([]byte{tag})
	for _, x := range numbers {
		h.Write(binary.LittleEndian.AppendUint64(nil, x))
	}
	h.Write([]byte(text))
	return h.Sum64() % api.Q
}

func reckonChallenge(r, key uint64, message string) uint64 { return reckonHash(2, message, r, key) }

// reckonZ: a nonce, and a secret times a challenge.
func reckonZ(nonce, secret, challenge uint64) uint64 {
	z := new(big.Int).Mul(new(big.Int).SetUint64(secret), new(big.Int).SetUint64(challenge))
	z.Add(z, new(big.Int).SetUint64(nonce))
	return z.Mod(z, big.NewInt(api.Q)).Uint64()
}

// mayBeKey: an element that is not 1; the elements are the squares modulo P.
func mayBeKey(x uint64) bool {
	return x > 1 && x < api.P && big.Jacobi(new(big.Int).SetUint64(x), big.NewInt(api.P)) == 1
}

func reckonNine(id byte, d, e uint32) []byte {
	return binary.LittleEndian.AppendUint32(binary.LittleEndian.AppendUint32([]byte{id}, d), e)
}

func reckonUnpack(s string) ([]api.Commit, api.Errno) {
	if len(s)%9 != 0 || len(s) > 81 {
		return nil, api.ErrBytes
	}
	var out []api.Commit
	for b := []byte(s); len(b) > 0; b = b[9:] {
		c := api.Commit{ID: int(b[0]), D: uint64(binary.LittleEndian.Uint32(b[1:])), E: uint64(binary.LittleEndian.Uint32(b[5:]))}
		switch {
		case c.ID < 1 || c.ID > 9:
			return nil, api.ErrID
		case len(out) > 0 && c.ID <= out[len(out)-1].ID:
			return nil, api.ErrOrder
		case !mayBeKey(c.D) || !mayBeKey(c.E):
			return nil, api.ErrElement
		}
		out = append(out, c)
	}
	return out, api.OK
}

func reckonLook(g api.Group, l []api.Commit) api.Errno {
	if len(l) < g.T || len(l) > g.N {
		return api.ErrFew
	}
	for k, c := range l {
		if c.ID < 1 || c.ID > g.N {
			return api.ErrID
		}
		if k > 0 && c.ID <= l[k-1].ID {
			return api.ErrOrder
		}
	}
	for _, c := range l {
		if !mayBeKey(c.D) || !mayBeKey(c.E) {
			return api.ErrElement
		}
	}
	return api.OK
}

func reckonFactor(i int, key uint64, message string, l []api.Commit) uint64 {
	numbers := []uint64{uint64(i), key}
	for _, c := range l {
		numbers = append(numbers, uint64(c.ID), c.D, c.E)
	}
	return reckonHash(1, message, numbers...)
}

// reckonR: the commitment of all.
func reckonR(key uint64, message string, l []api.Commit) uint64 {
	p, r := big.NewInt(api.P), big.NewInt(1)
	for _, c := range l {
		f := new(big.Int).SetUint64(reckonFactor(c.ID, key, message, l))
		r.Mul(r, new(big.Int).SetUint64(c.D))
		r.Mul(r, f.Exp(new(big.Int).SetUint64(c.E), f, p))
		r.Mod(r, p)
	}
	return r.Uint64()
}

// reckonWeight: what a share of 1 counts for, where all others' shares are 0.
func reckonWeight(i int, l []api.Commit) uint64 {
	ids, ones := make([]int, len(l)), make([]uint64, len(l))
	for k, c := range l {
		ids[k] = c.ID
		if c.ID == i {
			ones[k] = 1
		}
	}
	return reckonCombine(ids, ones)
}

// reckonSigner keeps pairs in a list, as they came.
type reckonSigner struct {
	g     api.Group
	id    int
	share uint64
	pairs [][2]uint64
}

func (s *reckonSigner) commit(d, e uint64) (api.Commit, api.Errno) {
	switch {
	case d < 1 || d >= api.Q || e < 1 || e >= api.Q:
		return api.Commit{}, api.ErrScalar
	case slices.Contains(s.pairs, [2]uint64{d, e}):
		return api.Commit{}, api.ErrPair
	case len(s.pairs) == 6:
		return api.Commit{}, api.ErrFull
	}
	s.pairs = append(s.pairs, [2]uint64{d, e})
	return api.Commit{ID: s.id, D: toTheG(d), E: toTheG(e)}, api.OK
}

// pairOf: where the pair stands that the signer's commitment of a list is to.
func (s *reckonSigner) pairOf(l []api.Commit) int {
	return slices.IndexFunc(s.pairs, func(p [2]uint64) bool {
		return slices.Contains(l, api.Commit{ID: s.id, D: toTheG(p[0]), E: toTheG(p[1])})
	})
}

func (s *reckonSigner) sign(message string, l []api.Commit) (uint64, api.Errno) {
	if e := reckonLook(s.g, l); e != api.OK {
		return 0, e
	}
	at := s.pairOf(l)
	if at < 0 {
		return 0, api.ErrMine
	}
	key := s.g.Commits[0]
	r := reckonR(key, message, l)
	if r == 1 {
		return 0, api.ErrZero
	}
	d, e := s.pairs[at][0], s.pairs[at][1]
	s.pairs = slices.Delete(s.pairs, at, at+1)
	weighed := reckonZ(0, s.share, reckonWeight(s.id, l))
	return reckonZ(reckonZ(d, e, reckonFactor(s.id, key, message, l)), weighed, reckonChallenge(r, key, message)), api.OK
}

func reckonIsGroup(g api.Group) bool {
	if g.T < 2 || g.N < g.T || g.N > 9 || len(g.Commits) != g.T || g.Commits[0] == 1 {
		return false
	}
	return !slices.ContainsFunc(g.Commits, func(c uint64) bool { return c != 1 && !mayBeKey(c) })
}

// reckonPower: x to the power of y, modulo P.
func reckonPower(x, y uint64) *big.Int {
	return new(big.Int).Exp(new(big.Int).SetUint64(x), new(big.Int).SetUint64(y), big.NewInt(api.P))
}

func reckonPublic(g api.Group, i int) uint64 {
	all := big.NewInt(1)
	for k, c := range g.Commits {
		place := new(big.Int).Exp(big.NewInt(int64(i)), big.NewInt(int64(k)), big.NewInt(api.Q))
		all.Mul(all, reckonPower(c, place.Uint64()))
	}
	return all.Mod(all, big.NewInt(api.P)).Uint64()
}

// reckonRight: is a share right that the signer of commitment c of l has made?
func reckonRight(g api.Group, message string, l []api.Commit, c api.Commit, share uint64) bool {
	key := g.Commits[0]
	owed := reckonZ(0, reckonChallenge(reckonR(key, message, l), key, message), reckonWeight(c.ID, l))
	want := new(big.Int).SetUint64(c.D)
	want.Mul(want, reckonPower(c.E, reckonFactor(c.ID, key, message, l)))
	want.Mul(want, reckonPower(reckonPublic(g, c.ID), owed))
	return share < api.Q && toTheG(share) == want.Mod(want, big.NewInt(api.P)).Uint64()
}

func reckonAggregate(g api.Group, message string, l []api.Commit, shares []uint64) (api.Sig, []int, api.Errno) {
	if !reckonIsGroup(g) {
		return api.Sig{}, nil, api.ErrGroup
	}
	if e := reckonLook(g, l); e != api.OK {
		return api.Sig{}, nil, e
	}
	if len(l) != len(shares) {
		return api.Sig{}, nil, api.ErrLength
	}
	r := reckonR(g.Commits[0], message, l)
	if r == 1 {
		return api.Sig{}, nil, api.ErrZero
	}
	var wrong []int
	z := uint64(0)
	for k, c := range l {
		if !reckonRight(g, message, l, c, shares[k]) {
			wrong = append(wrong, c.ID)
		}
		z = reckonZ(z, shares[k], 1)
	}
	if len(wrong) > 0 {
		return api.Sig{}, wrong, api.ErrSigners
	}
	return api.Sig{R: r, Z: z}, nil, api.OK
}

// scatter: numbers from all over the scalars, the same ones each time; none is 0.
func scatter(seed uint64, count int) []uint64 {
	out := make([]uint64, count)
	for i := range out {
		seed = seed*6364136223846793005 + 1442695040888963407
		out[i] = 1 + seed>>33%(api.Q-1)
	}
	return out
}

// subsets: every choice of some of the numbers 1 to n, rising; not the empty one.
func subsets(n int) [][]int {
	var out [][]int
	for bits := 1; bits < 1<<n; bits++ {
		var one []int
		for i := range n {
			if bits>>i&1 == 1 {
				one = append(one, i+1)
			}
		}
		out = append(out, one)
	}
	return out
}

func sharesOf(ids []int, shares []uint64) []uint64 {
	var out []uint64
	for _, id := range ids {
		out = append(out, shares[id-1])
	}
	return out
}
