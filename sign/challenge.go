package sign

import "threshold/number"

const challengeTag = 2

// challenge binds a signature to its message: it is known only when R and the key are fixed.
func challenge(r, key number.Element, message string) number.Scalar {
	return number.Hash(challengeTag, message, uint64(r), uint64(key))
}
