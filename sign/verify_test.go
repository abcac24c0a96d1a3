package sign

import (
	"math"
	"strings"
	"testing"

	"threshold/api"
)

// sigBy: a signature by one who has the key's secret and chooses a nonce.
func sigBy(secret, nonce uint64, message string) (uint64, api.Sig) {
	key, r := toTheG(secret), toTheG(nonce)
	return key, api.Sig{R: r, Z: reckonZ(nonce, secret, reckonChallenge(r, key, message))}
}

func TestVerifyExample9(t *testing.T) {
	key, s := sigBy(5, 7, "m")
	if !Verify(key, "m", s) {
		t.Fatalf("P6: Verify(%d, m, %v) = false", key, s)
	}
	for _, other := range []uint64{1, 2} {
		if Verify(other, "m", s) {
			t.Errorf("P6: Verify holds with the key %d", other)
		}
	}
	if Verify(key, "m", api.Sig{R: 1, Z: s.Z}) {
		t.Error("P6: Verify holds with R 1")
	}
}

func TestVerifyWhatHolds(t *testing.T) {
	scalars := append([]uint64{1, 2, 5, api.Q / 2, api.Q - 2, api.Q - 1}, scatter(9, 6)...)
	messages := []string{"", "m", "mm", "\x00", "\x00m", "\xff\xfe", "größer 語", strings.Repeat("long ", 500)}
	for _, secret := range scalars {
		for _, nonce := range scalars {
			for _, m := range messages {
				key, s := sigBy(secret, nonce, m)
				if !Verify(key, m, s) {
					t.Errorf("P6: Verify(%d, %.20q, %v) = false", key, m, s)
				}
			}
		}
	}
}

func TestVerifyWithOneThingChanged(t *testing.T) {
	for round := range 200 {
		x := scatter(uint64(round), 3)
		m := Pack(rising(round % 5))
		key, s := sigBy(x[0], x[1], m)
		r, z := s.R, s.Z
		for _, c := range []struct {
			what string
			key  uint64
			m    string
			s    api.Sig
		}{
			{"a message with more", key, m + "\x00", s},
			{"another message", key, "another", s},
			{"another key", toTheG(x[2]), m, s},
			{"the key times G", key * 4 % api.P, m, s},
			{"the key's opposite", api.P - key, m, s},
			{"the key and P", key + api.P, m, s},
			{"another R", key, m, api.Sig{R: toTheG(x[2]), Z: z}},
			{"R times G, Z and 1", key, m, api.Sig{R: r * 4 % api.P, Z: (z + 1) % api.Q}},
			{"R's opposite", key, m, api.Sig{R: api.P - r, Z: z}},
			{"R and P", key, m, api.Sig{R: r + api.P, Z: z}},
			{"Z and 1", key, m, api.Sig{R: r, Z: (z + 1) % api.Q}},
			{"Z less 1", key, m, api.Sig{R: r, Z: (z + api.Q - 1) % api.Q}},
			{"Z's opposite", key, m, api.Sig{R: r, Z: api.Q - z}},
			{"Z and Q", key, m, api.Sig{R: r, Z: z + api.Q}},
			{"Z and 2 to the 32", key, m, api.Sig{R: r, Z: z + 1<<32}},
			{"Z and a multiple of Q near 2 to the 64", key, m, api.Sig{R: r, Z: z + math.MaxUint64/api.Q*api.Q - api.Q}},
			{"R and Z changed for each other", key, m, api.Sig{R: z, Z: r}},
			{"R and the key changed for each other", r, m, api.Sig{R: key, Z: z}},
		} {
			if Verify(c.key, c.m, c.s) {
				t.Errorf("P6: round %d: Verify holds with %s", round, c.what)
			}
		}
	}
}

// With Q - 1 and with 0 a signature can hold; these messages were looked for, so that it does.
func TestVerifyZAtItsEdges(t *testing.T) {
	for _, c := range []struct {
		message string
		z       uint64
	}{{"aludnja", api.Q - 1}, {"dpjxojc", 0}, {"ksykwtg", 7}} {
		key, s := sigBy(5, 7, c.message)
		if s.Z != c.z || !Verify(key, c.message, s) {
			t.Errorf("P6: Verify(%d, %q, %v) = false, or Z is not %d", key, c.message, s, c.z)
		}
		for _, more := range []uint64{1, api.Q - 1, api.Q, api.Q + 1, 2 * api.Q, api.P - 1} {
			if Verify(key, c.message, api.Sig{R: s.R, Z: s.Z + more}) {
				t.Errorf("P6: Verify(%d, %q) holds with Z %d and %d more", key, c.message, s.Z, more)
			}
		}
	}
}

// Each of these would hold if what R or the key is were not asked for.
func TestVerifyAsksForElements(t *testing.T) {
	const p = api.P
	tried := [2]int{}
	for round := range 50 {
		m := strings.Repeat("m", round)
		if Verify(1, m, api.Sig{R: 16, Z: 2}) {
			t.Error("P6: Verify holds with the key 1")
		}
		if Verify(4, m, api.Sig{R: 1, Z: reckonChallenge(1, 4, m)}) {
			t.Error("P6: Verify holds with R 1")
		}
		if Verify(4, m, api.Sig{R: p + 16, Z: reckonZ(2, 1, reckonChallenge(p+16, 4, m))}) {
			t.Error("P6: Verify holds with R greater than P")
		}
		if Verify(p+4, m, api.Sig{R: 16, Z: reckonZ(2, 1, reckonChallenge(16, p+4, m))}) {
			t.Error("P6: Verify holds with a key greater than P")
		}
		if c := reckonChallenge(16, 2, m); c%2 == 0 {
			tried[0]++
			if Verify(2, m, api.Sig{R: 16, Z: reckonZ(2, 1, c/2)}) {
				t.Error("P6: Verify holds with the key 2")
			}
		}
		if c := reckonChallenge(2, 2, m); c%2 == 1 {
			tried[1]++
			if Verify(2, m, api.Sig{R: 2, Z: (c + 1) / 2}) {
				t.Error("P6: Verify holds with R and the key 2")
			}
		}
	}
	if tried[0] == 0 || tried[1] == 0 {
		t.Errorf("no challenge of the kind that is asked for: %v", tried)
	}
	key, s := sigBy(5, 7, "m")
	for _, x := range []uint64{0, 1, 2, p - 1, p, p + 1, p + 4, 1 << 32, math.MaxUint64} {
		if Verify(x, "m", s) || Verify(key, "m", api.Sig{R: x, Z: s.Z}) {
			t.Errorf("P6: Verify holds with R or the key %d", x)
		}
		for z := range uint64(8) {
			if Verify(x, "m", api.Sig{R: s.R, Z: z}) || Verify(key, "m", api.Sig{R: x, Z: z}) || Verify(x, "m", api.Sig{R: x, Z: z}) {
				t.Errorf("P6: Verify holds with R or the key %d, and Z %d", x, z)
			}
		}
	}
}
