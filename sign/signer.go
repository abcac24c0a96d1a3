package sign

import (
	"sync"

	"threshold/api"
	"threshold/number"
)

// pair: the nonces of a signer that a commitment is to.
type pair struct {
	d, e number.Scalar
}

// Signer: of a group. One that was not made by NewSigner has no group: it keeps nothing and signs nothing.
type Signer struct {
	group *group
	id    int
	share number.Scalar

	mutex sync.Mutex // guards kept; what stands above never changes
	kept  map[api.Commit]pair
}

// NewSigner: of a group, with its share (P7).
func NewSigner(g api.Group, id int, share uint64) (*Signer, api.Errno) {
	own, scalar, e := claim(g, id, share)
	if e != api.OK {
		return nil, e
	}
	if !own.gave(id, scalar) {
		return nil, api.ErrShare
	}
	return &Signer{group: own, id: id, share: scalar, kept: map[api.Commit]pair{}}, api.OK
}

func (s *Signer) made() bool { return s != nil && s.group != nil }

// Commit: to a pair of nonces, which is kept (P8).
func (s *Signer) Commit(d uint64, e uint64) (api.Commit, api.Errno) {
	if !s.made() {
		return api.Commit{}, api.ErrGroup
	}
	nonces, ok := number.All(number.NonzeroOf, []uint64{d, e})
	if !ok {
		return api.Commit{}, api.ErrScalar
	}
	p := pair{d: nonces[0], e: nonces[1]}
	c := api.Commit{ID: s.id, D: uint64(number.ToThe(p.d)), E: uint64(number.ToThe(p.e))}
	if fault := s.keep(c, p); fault != api.OK {
		return api.Commit{}, fault
	}
	return c, api.OK
}

// keep goes by the commitment: G to different scalars is different, so another commitment is another pair.
func (s *Signer) keep(c api.Commit, p pair) api.Errno {
	s.mutex.Lock()
	defer s.mutex.Unlock()
	if _, known := s.kept[c]; known {
		return api.ErrPair
	}
	if len(s.kept) >= api.MaxPairs {
		return api.ErrFull
	}
	s.kept[c] = p
	return api.OK
}

// Left: how many pairs are kept (P8).
func (s *Signer) Left() int {
	if !s.made() {
		return 0
	}
	s.mutex.Lock()
	defer s.mutex.Unlock()
	return len(s.kept)
}

// Sign: a share of a signature (P9).
func (s *Signer) Sign(message string, l []api.Commit) (uint64, api.Errno) {
	if !s.made() {
		return 0, api.ErrGroup
	}
	b := newBundle(s.group, message, l)
	if e := b.look(); e != api.OK {
		return 0, e
	}
	r := commitmentOfAll(b.parts())
	p, e := s.take(b.of(s.id), r)
	if e != api.OK {
		return 0, e
	}
	bound := p.e.Times(b.factor(s.id))
	owed := b.weight(s.id).Times(s.share).Times(b.challenge(r))
	return uint64(number.Together(number.Scalar.Plus, p.d, bound, owed)), api.OK
}

// take hands out a pair and deletes it, in one: two shares made with one pair would tell the signer's secret. A pair is not spent for an R that cannot be signed with.
func (s *Signer) take(c api.Commit, r number.Element) (pair, api.Errno) {
	s.mutex.Lock()
	defer s.mutex.Unlock()
	p, known := s.kept[c]
	if !known {
		return pair{}, api.ErrMine
	}
	if r == 1 {
		return pair{}, api.ErrZero
	}
	delete(s.kept, c)
	return p, api.OK
}
