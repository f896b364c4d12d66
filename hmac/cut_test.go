package hmac_test

import (
	"bytes"
	"fmt"
	"math/rand"
	"testing"

	mac "coffret/hmac"
)

func TestCutInTwo(t *testing.T) { // P3.2
	for _, key := range [][]byte{nil, []byte("Jefe"), made(1, 64), made(2, 131)} {
		for _, n := range []int{1, 3, 55, 56, 63, 64, 65, 128, 150} {
			b := made(int64(n), n)
			want := wanted(key, b)
			for cut := range n + 1 {
				what := fmt.Sprintf("key of %d bytes, %d bytes cut at %d", len(key), n, cut)
				if got := mac.Of(key, b[:cut], b[cut:]); got != want {
					t.Errorf("%s: Of %x", what, got)
				}
				m := mac.New(key)
				m.Write(b[:cut], b[cut:])
				holds(t, what+", in one call", m, key, b)
				m = mac.New(key)
				m.Write(b[:cut])
				m.Write(b[cut:])
				holds(t, what+", in two calls", m, key, b)
				m = mac.New(key)
				m.Write(b[:cut])
				holds(t, what+", the first part", m, key, b[:cut])
				m.Write(b[cut:])
				holds(t, what+", asked between", m, key, b)
			}
		}
	}
}

func TestCutInPiecesOfOneLength(t *testing.T) { // P3.2
	key, b := []byte("Jefe"), made(3, 300)
	want := wanted(key, b)
	for size := 1; size <= 100; size++ {
		var pieces [][]byte
		m := mac.New(key)
		for at := 0; at < len(b); at += size {
			end := min(at+size, len(b))
			pieces = append(pieces, b[at:end])
			m.Write(b[at:end])
			holds(t, fmt.Sprintf("pieces of %d, up to %d", size, end), m, key, b[:end])
		}
		if got := mac.Of(key, pieces...); got != want {
			t.Errorf("pieces of %d: Of %x", size, got)
		}
	}
}

func TestEmptyPiecesBetween(t *testing.T) { // P3.2
	key, b := []byte("Jefe"), made(4, 130)
	want := wanted(key, b)
	for cut := range len(b) + 1 {
		if got := mac.Of(key, nil, b[:cut], []byte{}, nil, b[cut:], nil); got != want {
			t.Errorf("cut at %d: Of %x", cut, got)
		}
	}
}

func TestAskingAgainChangesNothing(t *testing.T) { // P3.1, P3.2
	key := []byte("Jefe")
	for n := range 140 {
		b := made(int64(n), n+80)
		m := mac.New(key)
		m.Write(b[:n])
		for range 3 {
			holds(t, fmt.Sprintf("%d bytes, asked again", n), m, key, b[:n])
		}
		m.Write(b[n:])
		holds(t, fmt.Sprintf("%d bytes, more behind the asking", n), m, key, b)
	}
}

func TestAKeyFilledUpWithNoughts(t *testing.T) { // P3.2
	b := []byte("abc")
	for n := range 65 {
		key := made(int64(n), n)
		want := mac.Of(key, b)
		for full := n; full <= 64; full++ {
			filled := append(bytes.Clone(key), make([]byte, full-n)...)
			what := fmt.Sprintf("%d bytes filled up to %d", n, full)
			if got := mac.Of(filled, b); got != want {
				t.Errorf("%s: Of %x, not %x", what, got, want)
			}
			m := mac.New(filled)
			m.Write(b)
			holds(t, what, m, key, b)
		}
	}
}

func TestAKeyFilledUpWrongly(t *testing.T) { // P3.2
	b := []byte("abc")
	for n := range 65 {
		key := append(made(int64(n), n), 1) // so that its last byte isn't nought
		want := mac.Of(key, b)
		for what, wrong := range map[string][]byte{
			"with noughts to more than 64":  append(bytes.Clone(key), make([]byte, 65-n)...),
			"with noughts at its beginning": append([]byte{0}, key...),
			"with another byte":             append(bytes.Clone(key), 2),
			"by less than nothing":          key[:n],
		} {
			if mac.Of(wrong, b) == want {
				t.Errorf("%d bytes filled up %s lead to the same", len(key), what)
			}
		}
	}
}

// cutAnyhow cuts b into pieces and calls as choices tell (all of b, with the rest as one piece), and asks between.
func cutAnyhow(t *testing.T, key, b, choices []byte) {
	t.Helper()
	m := mac.New(key)
	var all, some [][]byte
	at := 0
	for _, c := range choices {
		end := min(at+int(c/4), len(b))
		some = append(some, b[at:end])
		all = append(all, b[at:end])
		at = end
		if c%4 != 0 {
			m.Write(some...)
			some = nil
		}
		if c%4 == 3 {
			holds(t, fmt.Sprintf("%v, up to %d", choices, at), m, key, b[:at])
		}
	}
	m.Write(append(some, b[at:])...)
	all = append(all, b[at:])
	holds(t, fmt.Sprintf("%v, at the end", choices), m, key, b)
	if got, want := mac.Of(key, all...), wanted(key, b); got != want {
		t.Errorf("%v: Of %x, not %x", choices, got, want)
	}
}

func TestCutAnyhow(t *testing.T) { // P3.2
	rnd := rand.New(rand.NewSource(1))
	for range 4000 {
		key, b, choices := make([]byte, rnd.Intn(150)), make([]byte, rnd.Intn(600)), make([]byte, rnd.Intn(20))
		rnd.Read(key)
		rnd.Read(b)
		rnd.Read(choices)
		cutAnyhow(t, key, b, choices)
	}
}

func FuzzCutAnyhow(f *testing.F) { // P3.1, P3.2
	f.Add([]byte("Jefe"), []byte("abc"), []byte{5, 7})
	f.Add(made(1, 65), made(2, 200), []byte{255, 4, 0, 223})
	f.Add([]byte{}, []byte{}, []byte{3})
	f.Fuzz(func(t *testing.T, key, b, choices []byte) {
		cutAnyhow(t, key, b, choices)
	})
}
