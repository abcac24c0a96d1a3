package number

import "threshold/api"

const (
	hashBegin   = 14695981039346656037
	hashTimes   = 1099511628211
	numberBytes = 8
)

// running is a hash that is not at its end: it wraps round at 2 to the 64, and is reduced to a scalar only behind the last byte.
type running uint64

func (h running) withByte(b byte) running { return (h ^ running(b)) * hashTimes }

// withNumber takes as many bytes of a small number as of a great one: where one ends is never in doubt.
func (h running) withNumber(x uint64) running {
	for k := range numberBytes {
		h = h.withByte(byte(x >> (8 * k)))
	}
	return h
}

// withText goes by bytes, not by runes: a message need not be UTF-8.
func (h running) withText(s string) running {
	for k := range len(s) {
		h = h.withByte(s[k])
	}
	return h
}

// Hash makes a scalar of a tag, numbers and a text. The tag keeps hashes that are made for one thing from being taken for another.
func Hash(tag byte, text string, numbers ...uint64) Scalar {
	h := running(hashBegin).withByte(tag)
	for _, x := range numbers {
		h = h.withNumber(x)
	}
	return Scalar(h.withText(text) % api.Q)
}
