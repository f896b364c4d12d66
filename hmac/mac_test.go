package hmac_test

import (
	"bytes"
	"crypto/hmac"
	"crypto/sha256"
	"fmt"
	"math/rand"
	"strings"
	"testing"

	mac "coffret/hmac"
	"coffret/sha"
)

// made: so many bytes, made up from a seed.
func made(seed int64, n int) []byte {
	b := make([]byte, n)
	rand.New(rand.NewSource(seed)).Read(b)
	return b
}

// wanted: another program's keyed digest.
func wanted(key, b []byte) [32]byte {
	m := hmac.New(sha256.New, key)
	m.Write(b)
	return [32]byte(m.Sum(nil))
}

// keyed holds what Of, and a Mac that takes b in at once, answer against another program's keyed digest.
func keyed(t *testing.T, what string, key, b []byte) {
	t.Helper()
	if got, want := mac.Of(key, b), wanted(key, b); got != want {
		t.Errorf("%s: Of %x, not %x", what, got, want)
	}
	m := mac.New(key)
	m.Write(b)
	holds(t, what, m, key, b)
}

// holds: m has taken in just b, under the key.
func holds(t *testing.T, what string, m *mac.Mac, key, b []byte) {
	t.Helper()
	if got, want := m.Sum(), wanted(key, b); got != want {
		t.Errorf("%s: Sum %x, not %x", what, got, want)
	}
	if n := m.Size(); n != 64+len(b) {
		t.Errorf("%s: Size %d, not %d", what, n, 64+len(b))
	}
}

func TestKnownKeyedDigests(t *testing.T) { // P3.1
	for _, c := range []struct{ key, text, want string }{
		{"", "", "b613679a0814d9ec772f95d778c35fc5ff1697c493715653c6c712144292c5ad"},
		{"Jefe", "what do ya want for nothing?", "5bdcc146bf60754e6a042426089575c75a003f089d2739839dec58b964ec3843"},
		{"key", "The quick brown fox jumps over the lazy dog", "f7bc83f430538424b13298e6aa6fb143ef4d59a14946175997479dbc2d1a3cd8"},
		{strings.Repeat("\x0b", 20), "Hi There", "b0344c61d8db38535ca8afceaf0bf12b881dc200c9833da726e9376c2e32cff7"},
		{strings.Repeat("\xaa", 20), strings.Repeat("\xdd", 50), "773ea91e36800e46854db8ebd09181a72959098b3ef8c122d9635514ced565fe"},
		{"\x01\x02\x03\x04\x05\x06\x07\x08\x09\x0a\x0b\x0c\x0d\x0e\x0f\x10\x11\x12\x13\x14\x15\x16\x17\x18\x19", strings.Repeat("\xcd", 50), "82558a389a443c0ea4cc819899f2083a85f0faa3e578f8077a2e3ff46729665b"},
		{strings.Repeat("\x0c", 20), "Test With Truncation", "a3b6167473100ee06e0c796c2955552bfa6f7c0a6a8aef8b93f860aab0cd20c5"},
		{strings.Repeat("\xaa", 131), "Test Using Larger Than Block-Size Key - Hash Key First", "60e431591ee0b67f0d8a26aacbf5b77f8e0bc6213728c5140546040f0ee37f54"},
		{strings.Repeat("\xaa", 131), "This is a test using a larger than block-size key and a larger than block-size data. The key needs to be hashed before being used by the HMAC algorithm.", "9b09ffa71b942fcb27635fbcd5b0e944bfdc63644f0713938a7f51535c3a35e2"},
		{strings.Repeat("k", 63), "abc", "23670528b6b8c55d2f8ef2f36c1f000cec7c23ec76881c485f2e89b5fe705cca"},
		{strings.Repeat("k", 64), "abc", "ae0c0e4a2340cf50185eb46aaa8723f4769153661612e212fb0d1fa3170c6202"},
		{strings.Repeat("k", 65), "abc", "ed378e5dfa30dc98814ba09b2e610d9b6af66054922ceef9480da094a3f11b2d"},
	} {
		if got := fmt.Sprintf("%x", mac.Of([]byte(c.key), []byte(c.text))); got != c.want {
			t.Errorf("key of %d bytes, %.8q: %s", len(c.key), c.text, got)
		}
	}
}

func TestAsTheChapterSaysIt(t *testing.T) { // P3.1
	for n := range 200 {
		key, b := made(int64(n), n), made(int64(-n), n+1)
		full := make([]byte, 64)
		if n > 64 {
			digest := sha256.Sum256(key)
			copy(full, digest[:])
		} else {
			copy(full, key)
		}
		inner, outer := bytes.Clone(full), bytes.Clone(full)
		for i := range 64 {
			inner[i] ^= 0x36
			outer[i] ^= 0x5c
		}
		digest := sha256.Sum256(append(inner, b...))
		if got, want := mac.Of(key, b), sha256.Sum256(append(outer, digest[:]...)); got != want {
			t.Errorf("a key of %d bytes: %x, not %x", n, got, want)
		}
	}
}

func TestKeysOfAllShortLengths(t *testing.T) { // P3.1
	texts := [][]byte{nil, []byte("abc"), made(1, 64), made(2, 200)}
	for n := range 260 { // up to a key's end, beyond it, and where its digest takes more blocks
		for _, key := range [][]byte{made(int64(n), n), bytes.Repeat([]byte{0x00}, n), bytes.Repeat([]byte{0xff}, n)} {
			for _, b := range texts {
				keyed(t, fmt.Sprintf("key of %d bytes %.2x.., text of %d", n, key, len(b)), key, b)
			}
		}
	}
}

func TestTextsOfAllShortLengths(t *testing.T) { // P3.1
	for _, key := range [][]byte{nil, []byte("k"), made(1, 64), made(2, 65)} {
		for n := range 260 {
			keyed(t, fmt.Sprintf("key of %d bytes, text of %d", len(key), n), key, made(int64(n), n))
		}
	}
}

func TestEachByteAtEachPlaceOfAKey(t *testing.T) { // P3.1
	for _, n := range []int{64, 70} {
		for place := range n {
			for x := range 256 {
				key := make([]byte, n)
				key[place] = byte(x)
				keyed(t, fmt.Sprintf("key of %d bytes, %x at %d", n, x, place), key, []byte("abc"))
			}
		}
	}
}

func TestLongKeysAndTexts(t *testing.T) { // P3.1
	for _, n := range []int{8160, 65536, 1 << 20, 1<<20 + 9} {
		keyed(t, fmt.Sprintf("key of %d bytes", n), made(int64(n), n), []byte("abc"))
		keyed(t, fmt.Sprintf("text of %d bytes", n), []byte("Jefe"), made(int64(n), n))
	}
}

func TestALongKeyIsItsDigest(t *testing.T) { // P3.1
	for _, n := range []int{65, 66, 127, 128, 129, 1000} {
		key := made(int64(n), n)
		digest := sha256.Sum256(key)
		if mac.Of(key, []byte("abc")) != mac.Of(digest[:], []byte("abc")) {
			t.Errorf("a key of %d bytes doesn't lead to what its digest leads to", n)
		}
	}
	key := made(1, 64) // just as long as a key may be
	digest := sha256.Sum256(key)
	if mac.Of(key, []byte("abc")) == mac.Of(digest[:], []byte("abc")) {
		t.Error("a key of 64 bytes leads to what its digest leads to")
	}
}

func TestNothingTakenInUnderAKey(t *testing.T) { // P3.1
	for _, key := range [][]byte{nil, {}, []byte("k"), made(1, 64), made(2, 65)} {
		want := wanted(key, nil)
		for what, got := range map[string][32]byte{
			"no pieces":     mac.Of(key),
			"nil pieces":    mac.Of(key, nil, nil),
			"empty pieces":  mac.Of(key, []byte{}, []byte{}),
			"a nil list":    mac.Of(key, [][]byte(nil)...),
			"an empty list": mac.Of(key, [][]byte{}...),
		} {
			if got != want {
				t.Errorf("key of %d bytes, %s: %x", len(key), what, got)
			}
		}
		m := mac.New(key)
		holds(t, "a new Mac", m, key, nil)
		m.Write()
		m.Write(nil)
		m.Write([]byte{}, nil)
		m.Write([][]byte(nil)...)
		holds(t, "behind empty pieces", m, key, nil)
	}
}

func TestAMacIsAHashWithTheInnerKey(t *testing.T) { // P3.1
	for _, n := range []int{0, 1, 63, 64, 65} {
		key, b := made(int64(n), n), made(int64(-n), 100)
		full := make([]byte, 64)
		copy(full, key)
		if n > 64 {
			digest := sha256.Sum256(key)
			full = append(digest[:], make([]byte, 32)...)
		}
		for i := range full {
			full[i] ^= 0x36
		}
		m := mac.New(key)
		var x *sha.Hash = m.Hash
		if x.Size() != 64 || x.Sum() != sha256.Sum256(full) {
			t.Errorf("a key of %d bytes: at first %d bytes, %x", n, x.Size(), x.Sum())
		}
		m.Write(b[:30])
		x.Write(b[30:])
		if x.Size() != 164 || x.Sum() != sha256.Sum256(append(full, b...)) {
			t.Errorf("a key of %d bytes: then %d bytes, %x", n, x.Size(), x.Sum())
		}
		holds(t, "behind both", m, key, b)
	}
}

func TestNilMac(t *testing.T) { // P3.1
	var m *mac.Mac
	for range 2 {
		if got := m.Sum(); got != [32]byte{} {
			t.Errorf("Sum %x", got)
		}
	}
}

func TestMacsAreApart(t *testing.T) { // P3.1
	key, other := []byte("one"), []byte("two")
	one, two, three := mac.New(key), mac.New(other), mac.New(key)
	var a, b, c []byte
	for i := range 100 {
		p, q, r := made(int64(i), i%23), made(int64(-i), i%31), made(int64(2*i), i%7)
		one.Write(p)
		two.Write(q)
		three.Write(r)
		a, b, c = append(a, p...), append(b, q...), append(c, r...)
		holds(t, "one", one, key, a)
		holds(t, "two", two, other, b)
		holds(t, "another of the same key", three, key, c)
		holds(t, "a new one", mac.New(key), key, nil)
	}
}
