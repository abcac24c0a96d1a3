package sign

import (
	"sync"

	"threshold/api"
	"threshold/number"
)

// polynomial: its coefficients, that of x to the 0 first.
type polynomial []number.Scalar

func (p polynomial) at(x int) number.Scalar {
	powers := number.Powers(number.Scalar(x), len(p))
	return number.Together(number.Scalar.Plus, 0, number.Pairwise(number.Scalar.Times, p, powers)...)
}

// group is an api.Group that has been found to be one; it has a list of commitments of its own.
type group struct {
	n       int
	commits []number.Element
	once    sync.Once
	publics [api.MaxN]number.Element // of signers 1 to n; filled when one is first asked for
}

// countsFit: the numbers that a group may have; the same for one that is dealt and one that is handed in.
func countsFit(t, n, count int) bool {
	return t >= 2 && t <= n && n <= api.MaxN && count == t
}

func newGroup(g api.Group) (*group, api.Errno) {
	if !countsFit(g.T, g.N, len(g.Commits)) {
		return nil, api.ErrGroup
	}
	commits, ok := number.All(number.ElementOf, g.Commits)
	if !ok || commits[0] == 1 {
		return nil, api.ErrGroup
	}
	return &group{n: g.N, commits: commits}, api.OK
}

// claim: a share that someone says is a signer's of a group; whether it is, is not asked here.
func claim(g api.Group, id int, share uint64) (*group, number.Scalar, api.Errno) {
	own, e := newGroup(g)
	if e != api.OK {
		return nil, 0, e
	}
	if !own.has(id) {
		return nil, 0, api.ErrID
	}
	scalar, ok := number.ScalarOf(share)
	if !ok {
		return nil, 0, api.ErrScalar
	}
	return own, scalar, api.OK
}

// inTurn: signers that are listed have numbers from 1 to most, and rise; ahead is the number in front, or 0.
func inTurn(id, ahead, most int) api.Errno {
	switch {
	case id < 1 || id > most:
		return api.ErrID
	case id <= ahead:
		return api.ErrOrder
	}
	return api.OK
}

func (g *group) has(id int) bool { return id >= 1 && id <= g.n }

func (g *group) threshold() int { return len(g.commits) }

func (g *group) key() number.Element { return g.commits[0] }

// gave: was this share dealt to that signer, whom the group has?
func (g *group) gave(id int, share number.Scalar) bool { return number.ToThe(share) == g.public(id) }

// public is the public share of a signer whom the group has.
func (g *group) public(id int) number.Element {
	g.once.Do(g.workOutPublics)
	return g.publics[id-1]
}

func (g *group) workOutPublics() {
	for i := range g.n {
		powers := number.Powers(number.Scalar(i+1), len(g.commits))
		g.publics[i] = number.Together(number.Element.Times, 1, number.Pairwise(number.Element.Power, g.commits, powers)...)
	}
}
