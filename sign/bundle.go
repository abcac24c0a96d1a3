package sign

import (
	"threshold/api"
	"threshold/number"
)

const factorTag = 1

// bundle is what the document calls a package (Go keeps that word for itself): a message and commitments, for a group. What is reckoned of it holds only behind look.
type bundle struct {
	*group
	message string
	list    []api.Commit
}

// newBundle copies the list: what has been looked at must be what is signed, whatever becomes of the list that was handed in.
func newBundle(g *group, message string, l []api.Commit) bundle {
	own := make([]api.Commit, len(l))
	copy(own, l)
	return bundle{group: g, message: message, list: own}
}

// look tells what is wrong with a package: the order of the checks is the order of the errors.
func (b bundle) look() api.Errno {
	for _, check := range []func(bundle) api.Errno{bundle.lookAtCount, bundle.lookAtNumbers, bundle.lookAtElements} {
		if e := check(b); e != api.OK {
			return e
		}
	}
	return api.OK
}

func (b bundle) lookAtCount() api.Errno {
	if len(b.list) < b.threshold() || len(b.list) > b.n {
		return api.ErrFew
	}
	return api.OK
}

func (b bundle) lookAtNumbers() api.Errno {
	ahead := 0
	for _, c := range b.list {
		if e := inTurn(c.ID, ahead, b.n); e != api.OK {
			return e
		}
		ahead = c.ID
	}
	return api.OK
}

func (b bundle) lookAtElements() api.Errno {
	for _, c := range b.list {
		if !proper(c) {
			return api.ErrElement
		}
	}
	return api.OK
}

// of is the commitment of one signer; if there is none, one without a number, to which nobody keeps a pair.
func (b bundle) of(id int) api.Commit {
	for _, c := range b.list {
		if c.ID == id {
			return c
		}
	}
	return api.Commit{}
}

func (b bundle) weight(id int) number.Scalar {
	ids := make([]int, len(b.list))
	for k, c := range b.list {
		ids[k] = c.ID
	}
	return weight(id, ids)
}

// factor binds a signer's nonces to this message and to all who sign: a share that is made for one package is of no use in another.
func (b bundle) factor(id int) number.Scalar {
	numbers := []uint64{uint64(id), uint64(b.key())}
	for _, c := range b.list {
		numbers = append(numbers, uint64(c.ID), c.D, c.E)
	}
	return number.Hash(factorTag, b.message, numbers...)
}

func (b bundle) part(c api.Commit) number.Element {
	return number.Element(c.D).Times(number.Element(c.E).Power(b.factor(c.ID)))
}

func (b bundle) parts() []number.Element {
	out := make([]number.Element, len(b.list))
	for k, c := range b.list {
		out[k] = b.part(c)
	}
	return out
}

// commitmentOfAll is 1 if the nonces, bound by their factors, come to 0: it could not be a signature's R.
func commitmentOfAll(parts []number.Element) number.Element {
	return number.Together(number.Element.Times, 1, parts...)
}

func (b bundle) challenge(r number.Element) number.Scalar { return challenge(r, b.key(), b.message) }
