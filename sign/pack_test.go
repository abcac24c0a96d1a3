package sign

import (
	"math"
	"slices"
	"strings"
	"testing"

	"threshold/api"
)

const (
	packedOne  = "\x01\x04\x00\x00\x00\x10\x00\x00\x00" // of {1 4 16}
	packedNine = "\x09\x40\x00\x00\x00\x04\x00\x00\x00" // of {9 64 4}
)

// nineOf: the bytes of a number, D and E that fit, whether they are any or not.
func nineOf(id byte, d, e uint32) string { return string(reckonNine(id, d, e)) }

// rising: as many commitments as count, of signers 1, 2 and so on.
func rising(count int) []api.Commit {
	var out []api.Commit
	for k, x := range scatter(uint64(count), count) {
		out = append(out, api.Commit{ID: k + 1, D: toTheG(x), E: toTheG(x + 1)})
	}
	return out
}

func TestPackExample4(t *testing.T) {
	if s := Pack([]api.Commit{{ID: 1, D: 4, E: 16}}); s != packedOne {
		t.Errorf("P5: Pack of {1 4 16} = % x", s)
	}
	for _, c := range []struct {
		s string
		e api.Errno
	}{
		{packedOne[:1] + "\x02" + packedOne[2:], api.ErrElement},
		{"\x0a" + packedOne[1:], api.ErrID},
		{packedOne + packedOne, api.ErrOrder},
	} {
		if l, e := Unpack(c.s); len(l) != 0 || e != c.e {
			t.Errorf("P5: Unpack(% x) = %v, %d, want %d", c.s, l, e, c.e)
		}
	}
	if l, e := Unpack(packedOne); e != api.OK || !slices.Equal(l, []api.Commit{{ID: 1, D: 4, E: 16}}) {
		t.Errorf("P5: Unpack(% x) = %v, %d", packedOne, l, e)
	}
}

func TestPackLists(t *testing.T) {
	if s := Pack(nil); s != "" {
		t.Errorf("P5: Pack of nil = % x", s)
	}
	if s := Pack([]api.Commit{}); s != "" {
		t.Errorf("P5: Pack of none = % x", s)
	}
	if s := Pack([]api.Commit{{ID: 9, D: 64, E: 4}, {ID: 1, D: 4, E: 16}, {ID: 1, D: 4, E: 16}}); s != packedNine+packedOne+packedOne {
		t.Errorf("P5: Pack of three that do not rise = % x", s)
	}
	many := make([]api.Commit, 1000)
	var want strings.Builder
	for k := range many {
		many[k] = api.Commit{ID: k, D: uint64(k) * 0x01020304, E: uint64(k) * 0x05060708}
		want.WriteString(nineOf(byte(k), uint32(k)*0x01020304, uint32(k)*0x05060708))
	}
	if s := Pack(many); s != want.String() {
		t.Errorf("P5: Pack of a thousand: %d bytes, not those of one after the other", len(s))
	}
}

func TestPackLaysTheLowestBytes(t *testing.T) {
	for _, c := range []struct {
		c    api.Commit
		want string
	}{
		{api.Commit{}, "\x00\x00\x00\x00\x00\x00\x00\x00\x00"},
		{api.Commit{ID: 3, D: 0x04030201, E: 0x08070605}, "\x03\x01\x02\x03\x04\x05\x06\x07\x08"},
		{api.Commit{ID: 255, D: 255, E: 256}, "\xff\xff\x00\x00\x00\x00\x01\x00\x00"},
		{api.Commit{ID: 256, D: math.MaxUint32, E: 0}, "\x00\xff\xff\xff\xff\x00\x00\x00\x00"},
		{api.Commit{ID: 257, D: 1 << 32, E: 1<<32 + 2}, "\x01\x00\x00\x00\x00\x02\x00\x00\x00"},
		{api.Commit{ID: 0x1234, D: 0x1122334455667788, E: math.MaxUint64}, "\x34\x88\x77\x66\x55\xff\xff\xff\xff"},
		{api.Commit{ID: -1, D: 4, E: 16}, "\xff\x04\x00\x00\x00\x10\x00\x00\x00"},
		{api.Commit{ID: -255, D: 4, E: 16}, "\x01\x04\x00\x00\x00\x10\x00\x00\x00"},
		{api.Commit{ID: -256, D: 4, E: 16}, "\x00\x04\x00\x00\x00\x10\x00\x00\x00"},
		{api.Commit{ID: math.MinInt, D: 1 << 63, E: 1 << 31}, "\x00\x00\x00\x00\x00\x00\x00\x00\x80"},
		{api.Commit{ID: math.MaxInt, D: api.P, E: api.Q}, "\xff\xbb\xff\xff\x7f\xdd\xff\xff\x3f"},
	} {
		if s := Pack([]api.Commit{c.c}); s != c.want {
			t.Errorf("P5: Pack of %v = % x, want % x", c.c, s, c.want)
		}
		if s := Pack([]api.Commit{{ID: 1, D: 4, E: 16}, c.c, {ID: 9, D: 64, E: 4}}); s != packedOne+c.want+packedNine {
			t.Errorf("P5: Pack of %v between two others = % x", c.c, s)
		}
	}
}

func TestUnpackLengths(t *testing.T) {
	ten := Pack(rising(10))
	for length := range len(ten) + 1 {
		want := api.OK
		if length%9 != 0 || length > 81 {
			want = api.ErrBytes
		}
		l, e := Unpack(ten[:length])
		if e != want || e == api.OK && len(l) != length/9 || e != api.OK && len(l) != 0 {
			t.Errorf("P5: Unpack of %d bytes = %v, %d, want %d", length, l, e, want)
		}
	}
	for _, length := range []int{8, 10, 82, 90, 99, 1 << 20, 9 << 20} {
		if l, e := Unpack(strings.Repeat("\x00", length)); len(l) != 0 || e != api.ErrBytes {
			t.Errorf("P5: Unpack of %d bytes that are 0 = %v, %d, want ErrBytes", length, l, e)
		}
	}
}

func TestUnpackEdges(t *testing.T) {
	const p = api.P
	for _, c := range []struct {
		s string
		e api.Errno
	}{
		{nineOf(0, 4, 16), api.ErrID},
		{nineOf(1, 4, 16), api.OK},
		{nineOf(9, 4, 16), api.OK},
		{nineOf(10, 4, 16), api.ErrID},
		{nineOf(128, 4, 16), api.ErrID},
		{nineOf(255, 4, 16), api.ErrID},
		{packedOne + nineOf(0, 4, 16), api.ErrID},
		{packedOne + nineOf(10, 4, 16), api.ErrID},
		{packedNine + nineOf(10, 4, 16), api.ErrID},
		{packedOne + packedNine, api.OK},
		{packedOne + packedOne, api.ErrOrder},
		{packedNine + packedNine, api.ErrOrder},
		{packedNine + packedOne, api.ErrOrder},
		{packedOne + nineOf(3, 4, 16) + nineOf(2, 4, 16), api.ErrOrder},
		{packedOne + nineOf(3, 4, 16) + nineOf(3, 4, 16), api.ErrOrder},
		{packedOne + nineOf(2, 4, 16) + nineOf(3, 4, 16), api.OK},
		{nineOf(1, 0, 16), api.ErrElement},
		{nineOf(1, 1, 16), api.ErrElement},
		{nineOf(1, 2, 16), api.ErrElement},
		{nineOf(1, p-1, 16), api.ErrElement},
		{nineOf(1, p, 16), api.ErrElement},
		{nineOf(1, p+1, 16), api.ErrElement},
		{nineOf(1, p+4, 16), api.ErrElement},
		{nineOf(1, math.MaxUint32, 16), api.ErrElement},
		{nineOf(1, 4, 0), api.ErrElement},
		{nineOf(1, 4, 1), api.ErrElement},
		{nineOf(1, 4, 2), api.ErrElement},
		{nineOf(1, 4, p-1), api.ErrElement},
		{nineOf(1, 4, p), api.ErrElement},
		{nineOf(1, 4, p+1), api.ErrElement},
		{nineOf(1, 4, p+4), api.ErrElement},
		{nineOf(1, 4, math.MaxUint32), api.ErrElement},
		{nineOf(1, 4, 4), api.OK},
		{nineOf(1, uint32(toTheG(api.Q-1)), uint32(toTheG(api.Q/2))), api.OK},
		{nineOf(1, p-2, p-2), api.OK}, // -2 is an element as 2 is none
		{packedOne + nineOf(2, 4, 1), api.ErrElement},
	} {
		l, e := Unpack(c.s)
		if e != c.e || e != api.OK && len(l) != 0 {
			t.Errorf("P5: Unpack(% x) = %v, %d, want %d", c.s, l, e, c.e)
		}
		if e == api.OK && Pack(l) != c.s {
			t.Errorf("P5: Unpack(% x) = %v: packed again % x", c.s, l, Pack(l))
		}
	}
}

// Nine bytes are looked at whole ahead of the next nine: what is wrong further ahead is told first.
func TestUnpackTellsTheFirstFault(t *testing.T) {
	for _, c := range []struct {
		s    string
		want api.Errno
	}{
		{nineOf(0, 0, 0) + "x", api.ErrBytes},
		{nineOf(0, 0, 0), api.ErrID},
		{nineOf(10, 2, 1), api.ErrID},
		{packedOne + nineOf(0, 0, 0), api.ErrID},
		{packedOne + nineOf(1, 0, 0), api.ErrOrder},
		{packedNine + nineOf(1, 1, 1), api.ErrOrder},
		{nineOf(2, 1, 4) + nineOf(0, 4, 4), api.ErrElement},
		{nineOf(2, 4, 1) + nineOf(1, 4, 4), api.ErrElement},
		{nineOf(2, 4, 4) + nineOf(1, 4, 4) + nineOf(0, 4, 4), api.ErrOrder},
		{nineOf(2, 4, 4) + nineOf(0, 4, 4) + nineOf(1, 4, 4), api.ErrID},
	} {
		if l, e := Unpack(c.s); len(l) != 0 || e != c.want {
			t.Errorf("P1: Unpack(% x) = %v, %d, want %d", c.s, l, e, c.want)
		}
	}
}

func TestUnpackOfPack(t *testing.T) {
	all := rising(api.MaxN)
	lists := [][]api.Commit{{}}
	for _, ids := range subsets(api.MaxN) {
		var l []api.Commit
		for _, id := range ids {
			l = append(l, all[id-1])
		}
		lists = append(lists, l)
	}
	for _, l := range lists {
		if back, e := Unpack(Pack(l)); e != api.OK || !slices.Equal(back, l) {
			t.Errorf("P5: %v comes back as %v, %d", l, back, e)
		}
	}
}

// Bytes at random are nearly always refused by their first number: so they are made out of pieces, of which some are right.
func TestUnpackAgainstTheWords(t *testing.T) {
	pieces := []uint32{0, 1, 2, 4, 16, 64, 1024, api.P - 4, api.P - 2, api.P - 1, api.P, api.P + 4, 1 << 31, math.MaxUint32, 3, 5, 7, 9}
	seen := map[api.Errno]int{}
	for round := range 20000 {
		x := scatter(uint64(round), 28)
		s := ""
		for k := range x[27] % 11 {
			s += nineOf(byte(x[3*k%27]%13), pieces[x[(3*k+1)%27]%18], pieces[x[(3*k+2)%27]%18])
		}
		if x[26]%16 == 0 {
			s += "\x01"
		}
		want, wantE := reckonUnpack(s)
		if l, e := Unpack(s); e != wantE || !slices.Equal(l, want) {
			t.Fatalf("P5: Unpack(% x) = %v, %d, want %v, %d", s, l, e, want, wantE)
		}
		seen[wantE]++
	}
	for _, e := range []api.Errno{api.OK, api.ErrBytes, api.ErrID, api.ErrOrder, api.ErrElement} {
		if seen[e] < 20 {
			t.Errorf("answer %d is seen only %d times", e, seen[e])
		}
	}
}
