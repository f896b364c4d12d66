package gcm_test

import (
	library "crypto/aes"
	"crypto/cipher"
	"encoding/binary"
	"fmt"
	"math/rand"
	"slices"
	"testing"

	"coffret/aes"
	"coffret/api"
	"coffret/gcm"
	"coffret/ghash"
)

// wantedBlock: a nonce's i-th block, as the chapter says it.
func wantedBlock(n gcm.Nonce, i int) aes.Block {
	return aes.Block(binary.BigEndian.AppendUint32(slices.Clone(n[:]), uint32(i)))
}

// exclusively: two lists taken exclusively, so many bytes as both have.
func exclusively(a, b []byte) []byte {
	var out []byte
	for i := range min(len(a), len(b)) {
		out = append(out, a[i]^b[i])
	}
	return out
}

// wantedSeal: what a text is sealed as, as the chapter says it, of layers 6 and 7.
func wantedSeal(t *testing.T, key []byte, n gcm.Nonce, text, aad []byte) []byte {
	t.Helper()
	c, e := aes.New(key)
	if e != api.OK {
		t.Fatalf("a key of %d bytes: %d", len(key), e)
	}
	var sealed []byte
	for start := 0; start < len(text); start += 16 {
		mask := c.Seal(wantedBlock(n, start/16+2))
		sealed = append(sealed, exclusively(text[start:], mask[:])...)
	}
	sum := ghash.Of(c.Seal(aes.Block{}), aad, sealed)
	mask := c.Seal(wantedBlock(n, 1))
	return append(sealed, exclusively(sum[:], mask[:])...)
}

// librarySeal: what a text is sealed as, as Go's library has it.
func librarySeal(t *testing.T, key []byte, n gcm.Nonce, text, aad []byte) []byte {
	t.Helper()
	block, err := library.NewCipher(key)
	if err != nil {
		t.Fatal(err)
	}
	c, err := cipher.NewGCM(block)
	if err != nil {
		t.Fatal(err)
	}
	return c.Seal(nil, n[:], text, aad)
}

// made: so many bytes, of a seed.
func made(seed int64, n int) []byte {
	b := make([]byte, n)
	rand.New(rand.NewSource(seed)).Read(b)
	return b
}

// madeNonce: a nonce, of a seed.
func madeNonce(seed int64) gcm.Nonce {
	return gcm.Nonce(made(seed, len(gcm.Nonce{})))
}

// keyLengths that a key may have.
var keyLengths = []int{16, 32}

// newOf: a key's Sealer.
func newOf(t *testing.T, key []byte) *gcm.Sealer {
	t.Helper()
	s, e := gcm.New(key)
	if e != api.OK || s == nil {
		t.Fatalf("New of %x: %v, %d", key, s, e)
	}
	return s
}

// sealedAs: a text, sealed, is wanted.
func sealedAs(t *testing.T, what string, s *gcm.Sealer, n gcm.Nonce, want, text []byte, aad ...[]byte) {
	t.Helper()
	if got, e := s.Seal(n, text, aad...); e != api.OK || !slices.Equal(got, want) {
		t.Errorf("%s: %s is sealed as %s, %d, not %s", what, short(text), short(got), e, short(want))
	}
}

// openedAs: what was sealed, opened, is wanted.
func openedAs(t *testing.T, what string, s *gcm.Sealer, n gcm.Nonce, want, sealed []byte, aad ...[]byte) {
	t.Helper()
	if got, e := s.Open(n, sealed, aad...); e != api.OK || !slices.Equal(got, want) {
		t.Errorf("%s: %s is opened as %s, %d, not %s", what, short(sealed), short(got), e, short(want))
	}
}

// short tells bytes, or the first ones of many.
func short(b []byte) string {
	if len(b) <= 64 {
		return fmt.Sprintf("%x", b)
	}
	return fmt.Sprintf("%x.. (%d bytes)", b[:64], len(b))
}

// holds a text sealed, and opened, against the library.
func holds(t *testing.T, what string, s *gcm.Sealer, key []byte, n gcm.Nonce, text, aad []byte) {
	t.Helper()
	want := librarySeal(t, key, n, text, aad)
	sealedAs(t, what, s, n, want, text, aad)
	openedAs(t, what, s, n, text, want, aad)
}

// lengths: within a block, whole blocks, what ends behind one; and where a count of blocks goes over a byte's end.
var lengths = []int{0, 1, 2, 11, 12, 13, 15, 16, 17, 31, 32, 33, 47, 48, 49, 63, 64, 65, 100, 253 * 16, 254 * 16, 254*16 + 1, 255 * 16, 255*16 + 1, 256 * 16, 5000}

func TestTheChaptersWords(t *testing.T) { // P8.1
	for _, keyLength := range keyLengths {
		for _, length := range lengths {
			for _, told := range []int{0, 1, 15, 16, 17, 40} {
				key, n := made(int64(length), keyLength), madeNonce(int64(told))
				text, aad := made(int64(length)+1, length), made(int64(told)+2, told)
				want := wantedSeal(t, key, n, text, aad)
				s := newOf(t, key)
				what := fmt.Sprintf("a key of %d, %d bytes, %d besides", keyLength, length, told)
				sealedAs(t, what, s, n, want, text, aad)
				openedAs(t, what, s, n, text, want, aad)
				if other := librarySeal(t, key, n, text, aad); !slices.Equal(other, want) { // so that the test's own reading is the standard's
					t.Fatalf("%s: the chapter's words lead to %s, the library's to %s", what, short(want), short(other))
				}
			}
		}
	}
}

func TestAllLengths(t *testing.T) { // P8.1
	for _, keyLength := range keyLengths {
		key, n := made(1, keyLength), madeNonce(2)
		s := newOf(t, key)
		for length := range 300 {
			holds(t, "a text alone", s, key, n, made(3, length), nil)
			holds(t, "known besides alone", s, key, n, nil, made(4, length))
			holds(t, "both", s, key, n, made(5, length), made(6, 300-length))
		}
	}
}

func TestEachBitOfANonce(t *testing.T) { // P8.1
	text, aad := made(7, 40), made(8, 20)
	for _, keyLength := range keyLengths {
		key := made(9, keyLength)
		s := newOf(t, key)
		for bit := range 8 * len(gcm.Nonce{}) {
			var n gcm.Nonce
			n[bit/8] = 0x80 >> (bit % 8)
			holds(t, "one bit", s, key, n, text, aad)
			for i := range n {
				n[i] = ^n[i]
			}
			holds(t, "all bits but one", s, key, n, text, aad)
		}
	}
}

func TestEachBitOfAKey(t *testing.T) { // P8.1
	n, text, aad := madeNonce(10), made(11, 40), made(12, 20)
	for _, keyLength := range keyLengths {
		for bit := range 8 * keyLength {
			key := make([]byte, keyLength)
			key[bit/8] = 0x80 >> (bit % 8)
			holds(t, "one bit", newOf(t, key), key, n, text, aad)
		}
	}
}

func TestEachByteAtEachPlace(t *testing.T) { // P8.1
	key, n := made(13, 16), madeNonce(14)
	s := newOf(t, key)
	for place := range 18 {
		for a := range 256 {
			text, aad := made(15, 18), made(16, 18)
			text[place] = byte(a)
			holds(t, "a byte of the text", s, key, n, text, aad)
			text, aad = made(15, 18), made(16, 18)
			aad[place] = byte(a)
			holds(t, "a byte known besides", s, key, n, text, aad)
		}
	}
}

func TestManyTexts(t *testing.T) { // P8.1
	rnd := rand.New(rand.NewSource(17))
	for range 1000 {
		key := made(rnd.Int63(), keyLengths[rnd.Intn(2)])
		s := newOf(t, key)
		for range 3 {
			holds(t, "made up", s, key, madeNonce(rnd.Int63()), made(rnd.Int63(), rnd.Intn(200)), made(rnd.Int63(), rnd.Intn(100)))
		}
	}
}

func TestManyBlocks(t *testing.T) { // P8.1: so many that their count needs three bytes
	for _, keyLength := range keyLengths {
		key, n := made(18, keyLength), madeNonce(19)
		s := newOf(t, key)
		for _, length := range []int{65533 * 16, 65534 * 16, 65534*16 + 1, api.MaxHash} {
			holds(t, fmt.Sprintf("%d bytes", length), s, key, n, made(20, length), made(21, 5))
		}
	}
}

func TestASealerHasItsCiphersRounds(t *testing.T) { // P8.1
	for _, keyLength := range keyLengths {
		key := made(22, keyLength)
		s := newOf(t, key)
		if got, want := s.Rounds(), keyLength/4+6; got != want {
			t.Errorf("a key of %d bytes: %d rounds, not %d", keyLength, got, want)
		}
		c, _ := aes.New(key)
		b := aes.Block(made(23, 16))
		if got, want := s.Cipher.Seal(b), c.Seal(b); got != want {
			t.Errorf("a key of %d bytes: a block is sealed as %x, not %x", keyLength, got, want)
		}
	}
}

func TestKeysThatCannotBe(t *testing.T) { // P8.1
	for length := range 100 {
		if length == 16 || length == 32 {
			continue
		}
		if s, e := gcm.New(made(24, length)); s != nil || e != api.ErrArg {
			t.Errorf("a key of %d bytes: %v, %d", length, s, e)
		}
	}
	if s, e := gcm.New(nil); s != nil || e != api.ErrArg {
		t.Errorf("no key: %v, %d", s, e)
	}
}

func TestTagsLength(t *testing.T) { // P8.1
	if gcm.Tag != 16 || len(gcm.Nonce{}) != 12 {
		t.Errorf("a tag of %d bytes, a nonce of %d", gcm.Tag, len(gcm.Nonce{}))
	}
}

func FuzzTextsUnderAKey(f *testing.F) { // P8.1, P8.2
	f.Add(make([]byte, 16), make([]byte, 12), []byte{}, []byte{}, 0, 0)
	f.Add(made(1, 32), made(2, 12), made(3, 40), made(4, 20), 7, 300)
	f.Fuzz(func(t *testing.T, key, nonce, text, aad []byte, cut, bit int) {
		if len(key) != 16 && len(key) != 32 {
			if s, e := gcm.New(key); s != nil || e != api.ErrArg {
				t.Errorf("a key of %d bytes: %v, %d", len(key), s, e)
			}
			return
		}
		var n gcm.Nonce
		copy(n[:], nonce)
		s := newOf(t, key)
		holds(t, "made up", s, key, n, text, aad)
		sealed := librarySeal(t, key, n, text, aad)
		at := int(uint(cut) % uint(len(aad)+1))
		openedAs(t, "cut", s, n, text, sealed, aad[:at], aad[at:])
		place := int(uint(bit) % uint(8*len(sealed)))
		isNotOpened(t, "a bit turned", s, n, turned(sealed, place), aad)
		isNotOpened(t, "cut off", s, n, sealed[:place/8], aad)
	})
}
