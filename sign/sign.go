// Package sign: signing together: see DOC.md.
package sign

import (
	"threshold/api"
	"threshold/number"
)

// Deal: a group and its signers' shares, out of a polynomial (P2).
func Deal(t int, n int, coeffs []uint64) (api.Group, []uint64, api.Errno) {
	if !countsFit(t, n, len(coeffs)) {
		return api.Group{}, nil, api.ErrCount
	}
	scalars, ok := number.All(number.ScalarOf, coeffs)
	if !ok || scalars[0] == 0 {
		return api.Group{}, nil, api.ErrScalar
	}
	commits := make([]number.Element, t)
	for k, c := range scalars {
		commits[k] = number.ToThe(c)
	}
	shares := make([]number.Scalar, n)
	for i := range n {
		shares[i] = polynomial(scalars).at(i + 1)
	}
	return api.Group{T: t, N: n, Commits: number.Plain(commits)}, number.Plain(shares), api.OK
}

// Check: is a share a signer's of a group (P3)?
func Check(g api.Group, id int, share uint64) (bool, api.Errno) {
	own, scalar, e := claim(g, id, share)
	if e != api.OK {
		return false, e
	}
	return own.gave(id, scalar), api.OK
}

// Combine: what a polynomial is at 0, out of values at some places (P4).
func Combine(ids []int, shares []uint64) (uint64, api.Errno) {
	if len(ids) == 0 || len(ids) > api.MaxN || len(ids) != len(shares) {
		return 0, api.ErrLength
	}
	scalars := make([]number.Scalar, len(ids))
	ahead := 0
	for k, id := range ids {
		if e := inTurn(id, ahead, api.MaxN); e != api.OK {
			return 0, e
		}
		scalar, ok := number.ScalarOf(shares[k])
		if !ok {
			return 0, api.ErrScalar
		}
		scalars[k], ahead = scalar, id
	}
	sum := number.Together(number.Scalar.Plus, 0, number.Pairwise(number.Scalar.Times, scalars, weights(ids))...)
	return uint64(sum), api.OK
}

// Pack: commitments as bytes (P5).
func Pack(l []api.Commit) string {
	out := make([]byte, packedSize*len(l))
	for k, c := range l {
		from, to := packedSize*k, packedSize*(k+1)
		layCommit(out[from:to:to], c)
	}
	return string(out)
}

// Unpack: the commitments of bytes (P5).
func Unpack(s string) ([]api.Commit, api.Errno) {
	if len(s)%packedSize != 0 || len(s) > packedSize*api.MaxN {
		return nil, api.ErrBytes
	}
	out := make([]api.Commit, len(s)/packedSize)
	ahead := 0
	for k := range out {
		c := readCommit(s[packedSize*k : packedSize*(k+1)])
		if e := inTurn(c.ID, ahead, api.MaxN); e != api.OK {
			return nil, e
		}
		if !proper(c) {
			return nil, api.ErrElement
		}
		out[k], ahead = c, c.ID
	}
	return out, api.OK
}

// Verify: does a signature hold (P6)?
func Verify(key uint64, message string, s api.Sig) bool {
	y, keyFits := number.ProperOf(key)
	r, rFits := number.ProperOf(s.R)
	z, zFits := number.ScalarOf(s.Z)
	if !keyFits || !rFits || !zFits {
		return false
	}
	return number.ToThe(z) == r.Times(y.Power(challenge(r, y, message)))
}

// Aggregate: shares of a signature, taken together; or whose are wrong (P10).
func Aggregate(g api.Group, message string, l []api.Commit, shares []uint64) (api.Sig, []int, api.Errno) {
	own, e := newGroup(g)
	if e != api.OK {
		return api.Sig{}, nil, e
	}
	b := newBundle(own, message, l)
	if e := b.look(); e != api.OK {
		return api.Sig{}, nil, e
	}
	if len(shares) != len(b.list) {
		return api.Sig{}, nil, api.ErrLength
	}
	parts := b.parts()
	r := commitmentOfAll(parts)
	if r == 1 {
		return api.Sig{}, nil, api.ErrZero
	}
	found := b.judgeAll(parts, b.challenge(r), shares)
	if wrong := found.wrong(); len(wrong) > 0 {
		return api.Sig{}, wrong, api.ErrSigners
	}
	return api.Sig{R: uint64(r), Z: uint64(found.sum())}, nil, api.OK
}
