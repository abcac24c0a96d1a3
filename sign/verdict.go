package sign

import (
	"sync"

	"threshold/number"
)

// verdict: what has been found of one signer's share. It holds the share that was looked at, so that what is summed up is what was found right.
type verdict struct {
	id    int
	share number.Scalar
	right bool
}

// verdicts are in the order of the commitments.
type verdicts []verdict

// judgeAll looks at all shares at a time; there are as many as commitments. Each goroutine writes to its own verdict alone: no lock is needed, and the order is the same, whoever ends first.
func (b bundle) judgeAll(parts []number.Element, challenge number.Scalar, shares []uint64) verdicts {
	out := make(verdicts, len(shares))
	var all sync.WaitGroup
	for k, c := range b.list {
		all.Add(1)
		go func() {
			defer all.Done()
			out[k] = b.judge(c.ID, parts[k], challenge, shares[k])
		}()
	}
	all.Wait()
	return out
}

// judge asks in the open what the signer has reckoned in secret: G to its nonces is the part, G to its share of the secret the public share.
func (b bundle) judge(id int, part number.Element, challenge number.Scalar, share uint64) verdict {
	z, ok := number.ScalarOf(share)
	owed := b.public(id).Power(challenge.Times(b.weight(id)))
	return verdict{id: id, share: z, right: ok && number.ToThe(z) == part.Times(owed)}
}

func (l verdicts) wrong() []int {
	var ids []int
	for _, v := range l {
		if !v.right {
			ids = append(ids, v.id)
		}
	}
	return ids
}

func (l verdicts) sum() number.Scalar {
	shares := make([]number.Scalar, len(l))
	for k, v := range l {
		shares[k] = v.share
	}
	return number.Together(number.Scalar.Plus, 0, shares...)
}
