package number

import (
	"encoding/binary"
	"hash/fnv"
	"math"
	"strings"
	"testing"

	"threshold/api"
)

// The document's hash is the library's FNV-1a, of 64 bits, modulo Q.
func libraryHash(tag byte, text string, numbers ...uint64) uint64 {
	h := fnv.New64a()
	h.Write([]byte{tag})
	for _, x := range numbers {
		h.Write(binary.LittleEndian.AppendUint64(nil, x))
	}
	h.Write([]byte(text))
	return h.Sum64() % api.Q
}

func TestHash(t *testing.T) {
	texts := []string{"", "m", "\x00", "\x00\x00", "\xff", "\xff\xfe\x80", "größer 語", strings.Repeat("long ", 1000)}
	lists := [][]uint64{nil, {0}, {0, 0}, {1, 2}, {2, 1}, {255, 256}, {1 << 31, 1 << 32, 1 << 63}, {math.MaxUint64, api.P, api.Q}, make([]uint64, 29)}
	for _, tag := range []byte{0, 1, 2, 128, 255} {
		for _, text := range texts {
			for _, list := range lists {
				if got, want := Hash(tag, text, list...), libraryHash(tag, text, list...); uint64(got) != want {
					t.Errorf("Hash(%d, %q, %v) = %d, want %d", tag, text, list, got, want)
				}
			}
		}
	}
}

func TestProperElements(t *testing.T) {
	for _, x := range []uint64{4, 16, 1024, uint64(ToThe(api.Q - 1))} {
		if e, ok := ProperOf(x); !ok || uint64(e) != x {
			t.Errorf("ProperOf(%d) = %d, %v", x, e, ok)
		}
	}
	for _, x := range []uint64{0, 1, 2, api.P - 1, api.P, api.P + 1, api.P + 4, math.MaxUint64} {
		if e, ok := ProperOf(x); ok || e != 0 {
			t.Errorf("ProperOf(%d) = %d, %v", x, e, ok)
		}
	}
}
