package sha_test

import (
	"bytes"
	"crypto/sha256"
	"fmt"
	"math/rand"
	"strings"
	"testing"

	"coffret/sha"
)

// made: so many bytes, made up from a seed.
func made(seed int64, n int) []byte {
	b := make([]byte, n)
	rand.New(rand.NewSource(seed)).Read(b)
	return b
}

// digests holds what Of, and a Hash that takes b in at once, answer against another program's digest.
func digests(t *testing.T, what string, b []byte) {
	t.Helper()
	want := sha256.Sum256(b)
	if got := sha.Of(b); got != want {
		t.Errorf("%s: Of %x, not %x", what, got, want)
	}
	x := sha.New()
	x.Write(b)
	holds(t, what, x, b)
}

// holds: x has taken in just b.
func holds(t *testing.T, what string, x *sha.Hash, b []byte) {
	t.Helper()
	if got, want := x.Sum(), sha256.Sum256(b); got != want {
		t.Errorf("%s: Sum %x, not %x", what, got, want)
	}
	if n := x.Size(); n != len(b) {
		t.Errorf("%s: Size %d, not %d", what, n, len(b))
	}
}

func TestKnownDigests(t *testing.T) { // P2.1
	for _, c := range []struct{ text, want string }{
		{"", "e3b0c44298fc1c149afbf4c8996fb92427ae41e4649b934ca495991b7852b855"},
		{"abc", "ba7816bf8f01cfea414140de5dae2223b00361a396177a9cb410ff61f20015ad"},
		{"abcdbcdecdefdefgefghfghighijhijkijkljklmklmnlmnomnopnopq", "248d6a61d20638b8e5c026930c3e6039a33ce45964ff2167f6ecedd419db06c1"},
		{"abcdefghbcdefghicdefghijdefghijkefghijklfghijklmghijklmnhijklmnoijklmnopjklmnopqklmnopqrlmnopqrsmnopqrstnopqrstu", "cf5b16a778af8380036ce59e7b0492370b249b11e8f07a51afac45037afee9d1"},
		{strings.Repeat("a", 1000000), "cdc76e5c9914fb9281a1c7e284d73e67f1809a48a497200e046d39ccc7112cd0"},
		{"\xbd", "68325720aabd7c82f30f554b313d0570c95accbb7dc4b5aae11204c08ffe732b"},
		{"\xc9\x8c\x8e\x55", "7abc22c0ae5af26ce93dbb94433a0e0b2e119d014f8e7f65bd56c61ccccd9504"},
		{strings.Repeat("\x00", 55), "02779466cdec163811d078815c633f21901413081449002f24aa3e80f0b88ef7"},
		{strings.Repeat("\x00", 56), "d4817aa5497628e7c77e6b606107042bbba3130888c5f47a375e6179be789fbb"},
		{strings.Repeat("\x00", 57), "65a16cb7861335d5ace3c60718b5052e44660726da4cd13bb745381b235a1785"},
		{strings.Repeat("\x00", 64), "f5a5fd42d16a20302798ef6ed309979b43003d2320d9f0e8ea9831a92759fb4b"},
	} {
		if got := fmt.Sprintf("%x", sha.Of([]byte(c.text))); got != c.want {
			t.Errorf("%d bytes, %.8q: %s", len(c.text), c.text, got)
		}
	}
}

func TestDigestsOfAllShortLengths(t *testing.T) { // P2.1
	for n := range 1025 { // the ends of blocks, and where the count just fits in or doesn't, sixteen times
		for _, x := range []byte{0x00, 0x80, 0xff} {
			digests(t, fmt.Sprintf("%d bytes %x", n, x), bytes.Repeat([]byte{x}, n))
		}
		digests(t, fmt.Sprintf("%d bytes", n), made(int64(n), n))
	}
}

func TestDigestsOfEachByteAtEachPlace(t *testing.T) { // P2.1
	for place := range 70 {
		for x := range 256 {
			b := make([]byte, 70)
			b[place] = byte(x)
			digests(t, fmt.Sprintf("%x at %d", x, place), b)
		}
	}
}

func TestDigestsOfLongPieces(t *testing.T) { // P2.1
	for _, n := range []int{8191, 8192, 65535, 65536, 65537, 1<<20 - 1, 1 << 20, 1<<20 + 9, 5 << 20} {
		digests(t, fmt.Sprintf("%d bytes", n), made(int64(n), n))
	}
}

func TestDigestOfMoreBitsThanFourBytesCount(t *testing.T) { // P2.1
	piece := made(1, 1<<22)
	x, want := sha.New(), sha256.New()
	for range 1<<29/len(piece) + 1 {
		x.Write(piece)
		want.Write(piece)
	}
	if got := x.Sum(); !bytes.Equal(got[:], want.Sum(nil)) {
		t.Errorf("%x", got)
	}
	if x.Size() != 1<<29+len(piece) {
		t.Errorf("Size %d", x.Size())
	}
}

func TestNothingTakenIn(t *testing.T) { // P2.1
	holds(t, "a new Hash", sha.New(), nil)
	none := sha256.Sum256(nil)
	for what, got := range map[string][32]byte{
		"no pieces":      sha.Of(),
		"nil pieces":     sha.Of(nil, nil),
		"empty pieces":   sha.Of([]byte{}, []byte{}),
		"a nil list":     sha.Of([][]byte(nil)...),
		"an empty list":  sha.Of([][]byte{}...),
		"nil and empty":  sha.Of(nil, []byte{}),
		"an empty slice": sha.Of([]byte("abc")[:0]),
	} {
		if got != none {
			t.Errorf("%s: %x", what, got)
		}
	}
	x := sha.New()
	x.Write()
	x.Write(nil)
	x.Write([]byte{}, nil, []byte{})
	x.Write([][]byte(nil)...)
	holds(t, "behind empty pieces", x, nil)
}

func TestNilHash(t *testing.T) { // P2.1
	var x *sha.Hash
	for range 2 {
		if got := x.Sum(); got != [32]byte{} {
			t.Errorf("Sum %x", got)
		}
		if n := x.Size(); n != 0 {
			t.Errorf("Size %d", n)
		}
		x.Write()
		x.Write(nil)
		x.Write([]byte("abc"), made(1, 200))
	}
}

func TestHashesAreApart(t *testing.T) { // P2.1
	one, two := sha.New(), sha.New()
	var a, b []byte
	for i := range 200 {
		p, q := made(int64(i), i%23), made(int64(-i), i%31)
		one.Write(p)
		two.Write(q)
		a, b = append(a, p...), append(b, q...)
		holds(t, "one", one, a)
		holds(t, "two", two, b)
		holds(t, "a new one", sha.New(), nil)
	}
}
