package sha_test

import (
	"crypto/sha256"
	"fmt"
	"math/rand"
	"testing"

	"coffret/sha"
)

func TestCutInTwo(t *testing.T) { // P2.2
	for _, n := range []int{1, 3, 55, 56, 63, 64, 65, 119, 120, 128, 200} {
		b := made(int64(n), n)
		want := sha256.Sum256(b)
		for cut := range n + 1 {
			what := fmt.Sprintf("%d bytes cut at %d", n, cut)
			if got := sha.Of(b[:cut], b[cut:]); got != want {
				t.Errorf("%s: Of %x", what, got)
			}
			x := sha.New()
			x.Write(b[:cut], b[cut:])
			holds(t, what+", in one call", x, b)
			x = sha.New()
			x.Write(b[:cut])
			x.Write(b[cut:])
			holds(t, what+", in two calls", x, b)
			x = sha.New()
			x.Write(b[:cut])
			holds(t, what+", the first part", x, b[:cut])
			x.Write(b[cut:])
			holds(t, what+", asked between", x, b)
		}
	}
}

func TestCutInPiecesOfOneLength(t *testing.T) { // P2.2
	b := made(3, 700)
	want := sha256.Sum256(b)
	for size := 1; size <= 200; size++ {
		var pieces [][]byte
		x := sha.New()
		for at := 0; at < len(b); at += size {
			end := min(at+size, len(b))
			pieces = append(pieces, b[at:end])
			x.Write(b[at:end])
			holds(t, fmt.Sprintf("pieces of %d, up to %d", size, end), x, b[:end])
		}
		if got := sha.Of(pieces...); got != want {
			t.Errorf("pieces of %d: Of %x", size, got)
		}
	}
}

func TestEmptyPiecesBetween(t *testing.T) { // P2.2
	b := made(4, 130)
	want := sha256.Sum256(b)
	for cut := range len(b) + 1 {
		if got := sha.Of(nil, b[:cut], []byte{}, nil, b[cut:], nil); got != want {
			t.Errorf("cut at %d: Of %x", cut, got)
		}
	}
}

func TestAskingAgainChangesNothing(t *testing.T) { // P2.2
	for n := range 140 {
		b := made(int64(n), n+80)
		often, never := sha.New(), sha.New()
		often.Write(b[:n])
		never.Write(b[:n])
		for range 3 {
			holds(t, fmt.Sprintf("%d bytes, asked again", n), often, b[:n])
		}
		often.Write(b[n:])
		never.Write(b[n:])
		holds(t, fmt.Sprintf("%d bytes, more behind the asking", n), often, b)
		holds(t, fmt.Sprintf("%d bytes, never asked between", n), never, b)
	}
}

// cutAnyhow cuts b into pieces and calls as choices tell (all of b, with the rest as one piece), and asks between.
func cutAnyhow(t *testing.T, b, choices []byte) {
	t.Helper()
	x := sha.New()
	var all, some [][]byte
	at := 0
	for _, c := range choices {
		end := min(at+int(c/4), len(b))
		some = append(some, b[at:end])
		all = append(all, b[at:end])
		at = end
		if c%4 != 0 {
			x.Write(some...)
			some = nil
		}
		if c%4 == 3 {
			holds(t, fmt.Sprintf("%v, up to %d", choices, at), x, b[:at])
		}
	}
	x.Write(append(some, b[at:])...)
	all = append(all, b[at:])
	holds(t, fmt.Sprintf("%v, at the end", choices), x, b)
	if got, want := sha.Of(all...), sha256.Sum256(b); got != want {
		t.Errorf("%v: Of %x, not %x", choices, got, want)
	}
}

func TestCutAnyhow(t *testing.T) { // P2.2
	rnd := rand.New(rand.NewSource(1))
	for range 4000 {
		b := make([]byte, rnd.Intn(600))
		rnd.Read(b)
		choices := make([]byte, rnd.Intn(20))
		rnd.Read(choices)
		cutAnyhow(t, b, choices)
	}
}

func FuzzCutAnyhow(f *testing.F) { // P2.1, P2.2
	f.Add([]byte("abc"), []byte{5, 7})
	f.Add(made(1, 200), []byte{255, 4, 0, 223})
	f.Add([]byte{}, []byte{3})
	f.Fuzz(func(t *testing.T, b, choices []byte) {
		cutAnyhow(t, b, choices)
	})
}
