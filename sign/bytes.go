package sign

import (
	"threshold/api"
	"threshold/number"
)

// Where the parts of a packed commitment end: its number, D and E, one behind the other.
const (
	idEnd      = 1
	dEnd       = idEnd + 4
	packedSize = dEnd + 4
)

// layCommit cuts each part at its end, in room too: nothing that is laid into one can reach the next.
func layCommit(part []byte, c api.Commit) {
	lay(part[:idEnd:idEnd], uint64(c.ID))
	lay(part[idEnd:dEnd:dEnd], c.D)
	lay(part[dEnd:packedSize:packedSize], c.E)
}

// lay fills a part with the lowest bytes of a number; those for which there is no place fall away.
func lay(part []byte, x uint64) {
	for k := range len(part) {
		part[k] = byte(x >> (8 * k))
	}
}

func readCommit(part string) api.Commit {
	return api.Commit{ID: int(read(part[:idEnd])), D: read(part[idEnd:dEnd]), E: read(part[dEnd:packedSize])}
}

func read(part string) uint64 {
	x := uint64(0)
	for k := range len(part) {
		x |= uint64(part[k]) << (8 * k)
	}
	return x
}

// proper: are both of a commitment's elements ones that may stand there?
func proper(c api.Commit) bool {
	_, ok := number.All(number.ProperOf, []uint64{c.D, c.E})
	return ok
}
