package kdf_test

import (
	"bytes"
	"fmt"
	"math/rand"
	"testing"

	"coffret/api"
	"coffret/kdf"
)

func TestFewerAreTheBeginningOfMore(t *testing.T) { // P4.2
	salt, key, purpose := []byte("salt"), made(1, 32), []byte("purpose")
	expanded, _ := kdf.Expand(key, api.MaxOkm, purpose)
	derived, _ := kdf.Derive(salt, key, api.MaxOkm, purpose)
	for n := range api.MaxOkm + 1 {
		if n > 300 && n%61 != 0 && n < api.MaxOkm-70 {
			continue
		}
		got, e := kdf.Expand(key, n, purpose)
		answers(t, fmt.Sprintf("Expand of %d", n), expanded[:n], got, e)
		got, e = kdf.Derive(salt, key, n, purpose)
		answers(t, fmt.Sprintf("Derive of %d", n), derived[:n], got, e)
	}
}

// cutTo holds the calls of a purpose in pieces against another program's of the whole.
func cutTo(t *testing.T, what string, key []byte, n int, purpose []byte, pieces ...[]byte) {
	t.Helper()
	got, e := kdf.Expand(key, n, pieces...)
	answers(t, what+": Expand", wanted(key, n, purpose), got, e)
	got, e = kdf.Derive([]byte("salt"), key, n, pieces...)
	answers(t, what+": Derive", wanted(wantedKey([]byte("salt"), key), n, purpose), got, e)
}

func TestPurposeCutInTwo(t *testing.T) { // P4.2
	for _, length := range []int{1, 2, 10, 31, 32, 33, 63, 64, 65, 100, 130} {
		purpose := made(int64(length), length)
		for cut := range length + 1 {
			for _, n := range []int{20, 32, 33, 100} {
				what := fmt.Sprintf("%d bytes for %d cut at %d", n, length, cut)
				cutTo(t, what, []byte("key"), n, purpose, purpose[:cut], purpose[cut:])
			}
		}
	}
}

func TestPurposeCutInPiecesOfOneLength(t *testing.T) { // P4.2
	purpose := made(2, 200)
	for size := 1; size <= 200; size++ {
		var pieces [][]byte
		for at := 0; at < len(purpose); at += size {
			pieces = append(pieces, purpose[at:min(at+size, len(purpose))])
		}
		cutTo(t, fmt.Sprintf("pieces of %d", size), []byte("key"), 70, purpose, pieces...)
	}
}

func TestEmptyPiecesBetween(t *testing.T) { // P4.2
	purpose := made(3, 40)
	for cut := range len(purpose) + 1 {
		what := fmt.Sprintf("cut at %d", cut)
		cutTo(t, what, []byte("key"), 70, purpose, nil, purpose[:cut], []byte{}, nil, purpose[cut:], nil)
	}
}

func TestOnePieceManyTimes(t *testing.T) { // P4.2
	piece := []byte("ab")
	for times := range 40 {
		pieces := make([][]byte, times)
		for i := range pieces {
			pieces[i] = piece
		}
		cutTo(t, fmt.Sprintf("%d times", times), []byte("key"), 70, bytes.Repeat(piece, times), pieces...)
	}
}

func TestPurposesThatArentTheSame(t *testing.T) { // P4.2
	seen := map[string]string{}
	for _, purpose := range []string{"", "\x00", "\x01", "\x00\x00", "\x01\x01", "a", "b", "ab", "ba", "a\x00b", "ab\x00", "aab", "abb"} {
		for what, answer := range map[string]func() ([]byte, api.Errno){
			"Expand": func() ([]byte, api.Errno) { return kdf.Expand([]byte("key"), 32, []byte(purpose)) },
			"Derive": func() ([]byte, api.Errno) { return kdf.Derive(nil, []byte("key"), 32, []byte(purpose)) },
		} {
			b, _ := answer()
			if other, ok := seen[string(b)]; ok {
				t.Errorf("%s for %q answers what it does for %s", what, purpose, other)
			}
			seen[string(b)] = fmt.Sprintf("%q, %s", purpose, what)
		}
	}
}

// cutAnyhow cuts a purpose into pieces as choices tell, the rest as one piece.
func cutAnyhow(t *testing.T, key []byte, n int, purpose, choices []byte) {
	t.Helper()
	var pieces [][]byte
	at := 0
	for _, c := range choices {
		end := min(at+int(c/4), len(purpose))
		pieces = append(pieces, purpose[at:end])
		at = end
	}
	cutTo(t, fmt.Sprintf("%d bytes, cut by %v", n, choices), key, n, purpose, append(pieces, purpose[at:])...)
}

func TestCutAnyhow(t *testing.T) { // P4.1, P4.2
	rnd := rand.New(rand.NewSource(1))
	for range 3000 {
		key, purpose, choices := make([]byte, rnd.Intn(100)), make([]byte, rnd.Intn(300)), make([]byte, rnd.Intn(20))
		rnd.Read(key)
		rnd.Read(purpose)
		rnd.Read(choices)
		cutAnyhow(t, key, rnd.Intn(300), purpose, choices)
	}
}

func FuzzCutAnyhow(f *testing.F) { // P4.1, P4.2
	f.Add([]byte("key"), 42, []byte("purpose"), []byte{5, 7})
	f.Add(made(1, 65), 8160, made(2, 100), []byte{255, 4, 0, 223})
	f.Add([]byte{}, 0, []byte{}, []byte{})
	f.Add([]byte("key"), -1, []byte("purpose"), []byte{3})
	f.Add([]byte("key"), 8161, []byte("purpose"), []byte{3})
	f.Fuzz(func(t *testing.T, key []byte, n int, purpose, choices []byte) {
		if n < 0 {
			refuses(t, api.ErrArg, key, n, purpose)
		} else if n > 8160 {
			refuses(t, api.ErrLong, key, n, purpose)
		} else {
			cutAnyhow(t, key, n, purpose, choices)
		}
	})
}
