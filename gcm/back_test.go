package gcm_test

import (
	"bytes"
	"fmt"
	"math/rand"
	"testing"

	"coffret/api"
	"coffret/gcm"
)

// turned: bytes with one bit turned.
func turned(b []byte, bit int) []byte {
	other := bytes.Clone(b)
	other[bit/8] ^= 1 << (bit % 8)
	return other
}

// sealOf: what a text is sealed as.
func sealOf(t *testing.T, s *gcm.Sealer, n gcm.Nonce, text []byte, aad ...[]byte) []byte {
	t.Helper()
	sealed, e := s.Seal(n, text, aad...)
	if e != api.OK || len(sealed) != len(text)+gcm.Tag {
		t.Fatalf("%s is sealed as %s, %d", short(text), short(sealed), e)
	}
	return sealed
}

// eachCase calls with sealers of both kinds of keys, and texts of many lengths, sealed with something known besides.
func eachCase(t *testing.T, call func(what string, s *gcm.Sealer, n gcm.Nonce, text, aad, sealed []byte)) {
	t.Helper()
	for _, keyLength := range keyLengths {
		s := newOf(t, made(1, keyLength))
		for _, length := range []int{0, 1, 15, 16, 17, 32, 45} {
			for _, told := range []int{0, 1, 16, 33} {
				n, text, aad := madeNonce(int64(length)), made(2, length), made(3, told)
				what := fmt.Sprintf("a key of %d, %d bytes, %d besides", keyLength, length, told)
				call(what, s, n, text, aad, sealOf(t, s, n, text, aad))
			}
		}
	}
}

func TestThereAndBack(t *testing.T) { // P8.2
	eachCase(t, func(what string, s *gcm.Sealer, n gcm.Nonce, text, aad, sealed []byte) {
		openedAs(t, what, s, n, text, sealed, aad)
		openedAs(t, what+", again", s, n, text, sealed, aad)
	})
}

func TestThereAndBackByAnotherOfTheSameKey(t *testing.T) { // P8.2
	for _, keyLength := range keyLengths {
		for seed := range int64(30) {
			key, n := made(seed, keyLength), madeNonce(seed)
			text, aad := made(seed+1, int(3*seed)), made(seed+2, int(2*seed))
			sealed := sealOf(t, newOf(t, key), n, text, aad)
			openedAs(t, "another sealer", newOf(t, bytes.Clone(key)), n, text, sealed, aad)
		}
	}
}

func TestOneCut(t *testing.T) { // P8.2
	eachCase(t, func(what string, s *gcm.Sealer, n gcm.Nonce, text, aad, sealed []byte) {
		for cut := range len(aad) + 1 {
			what := fmt.Sprintf("%s, cut at %d", what, cut)
			sealedAs(t, what, s, n, sealed, text, aad[:cut], aad[cut:])
			openedAs(t, what, s, n, text, sealed, aad[:cut], aad[cut:])
			openedAs(t, what+", empty pieces between", s, n, text, sealed, nil, aad[:cut], []byte{}, nil, aad[cut:], nil)
		}
	})
}

func TestByteByByte(t *testing.T) { // P8.2
	eachCase(t, func(what string, s *gcm.Sealer, n gcm.Nonce, text, aad, sealed []byte) {
		var pieces [][]byte
		for i := range aad {
			pieces = append(pieces, aad[i:i+1])
		}
		sealedAs(t, what, s, n, sealed, text, pieces...)
		openedAs(t, what, s, n, text, sealed, pieces...)
	})
}

func TestCutAnyhow(t *testing.T) { // P8.2
	rnd := rand.New(rand.NewSource(4))
	for range 500 {
		s := newOf(t, made(rnd.Int63(), keyLengths[rnd.Intn(2)]))
		n, text, aad := madeNonce(rnd.Int63()), made(rnd.Int63(), rnd.Intn(60)), made(rnd.Int63(), rnd.Intn(200))
		sealed := sealOf(t, s, n, text, aad)
		var pieces [][]byte
		for rest := aad; len(rest) > 0; {
			cut := rnd.Intn(len(rest) + 1)
			pieces, rest = append(pieces, rest[:cut]), rest[cut:]
		}
		sealedAs(t, "cut anyhow", s, n, sealed, text, pieces...)
		openedAs(t, "cut anyhow", s, n, text, sealed, pieces...)
	}
}

func TestABitTurned(t *testing.T) { // P8.2
	eachCase(t, func(what string, s *gcm.Sealer, n gcm.Nonce, text, aad, sealed []byte) {
		for bit := range 8 * len(sealed) {
			isNotOpened(t, fmt.Sprintf("%s, bit %d turned", what, bit), s, n, turned(sealed, bit), aad)
		}
		for bit := range 8 * len(aad) {
			isNotOpened(t, fmt.Sprintf("%s, bit %d besides turned", what, bit), s, n, sealed, turned(aad, bit))
		}
		for bit := range 8 * len(n) {
			isNotOpened(t, fmt.Sprintf("%s, the nonce's bit %d turned", what, bit), s, gcm.Nonce(turned(n[:], bit)), sealed, aad)
		}
	})
}

func TestAnotherByte(t *testing.T) { // P8.2: each one that isn't the same
	s, n, aad := newOf(t, made(5, 16)), madeNonce(6), made(7, 5)
	sealed := sealOf(t, s, n, made(8, 5), aad)
	for place := range sealed {
		for a := 1; a < 256; a++ {
			other := bytes.Clone(sealed)
			other[place] ^= byte(a)
			isNotOpened(t, fmt.Sprintf("byte %d with %x", place, a), s, n, other, aad)
		}
	}
}

func TestTwoBytesTurnedAlike(t *testing.T) { // P8.2: so that differences don't cancel out
	s, n := newOf(t, made(9, 16)), madeNonce(10)
	sealed := sealOf(t, s, n, made(11, 20))
	for one := range sealed {
		for other := range one {
			both := bytes.Clone(sealed)
			both[one] ^= 0x80
			both[other] ^= 0x80
			isNotOpened(t, fmt.Sprintf("bytes %d and %d", one, other), s, n, both)
		}
	}
}

func TestCutOffOrMore(t *testing.T) { // P8.2
	eachCase(t, func(what string, s *gcm.Sealer, n gcm.Nonce, text, aad, sealed []byte) {
		for length := range sealed {
			isNotOpened(t, fmt.Sprintf("%s, the first %d", what, length), s, n, sealed[:length], aad)
			isNotOpened(t, fmt.Sprintf("%s, the last %d", what, length), s, n, sealed[len(sealed)-length:], aad)
		}
		isNotOpened(t, what+", a nought behind", s, n, append(bytes.Clone(sealed), 0), aad)
		isNotOpened(t, what+", a nought ahead", s, n, append([]byte{0}, sealed...), aad)
		isNotOpened(t, what+", twice", s, n, append(bytes.Clone(sealed), sealed...), aad)
	})
}

func TestOtherThingsKnownBesides(t *testing.T) { // P8.2
	eachCase(t, func(what string, s *gcm.Sealer, n gcm.Nonce, text, aad, sealed []byte) {
		isNotOpened(t, what+", a nought more", s, n, sealed, aad, []byte{0}) // filled up it would be the same block
		isNotOpened(t, what+", a nought ahead", s, n, sealed, []byte{0}, aad)
		isNotOpened(t, what+", the tag too", s, n, sealed, aad, sealed[len(text):])
		if len(aad) > 0 {
			isNotOpened(t, what+", nothing", s, n, sealed)
			isNotOpened(t, what+", a byte fewer", s, n, sealed, aad[:len(aad)-1])
			isNotOpened(t, what+", twice", s, n, sealed, aad, aad)
			isNotOpened(t, what+", behind the tag", s, n, append(bytes.Clone(sealed), aad...))
		}
		if len(aad) > 1 {
			isNotOpened(t, what+", in another order", s, n, sealed, aad[1:], aad[:1])
		}
	})
}

func TestBytesMovedToTheText(t *testing.T) { // P8.2: where what is known besides ends, and the text begins, counts
	s, n := newOf(t, made(12, 32)), madeNonce(13)
	both := sealOf(t, s, n, made(14, 32), made(15, 32))
	sealed, tag := both[:32], both[32:]
	isNotOpened(t, "a block moved", s, n, append(bytes.Clone(sealed[16:]), tag...), made(15, 32), sealed[:16])
	isNotOpened(t, "all moved", s, n, tag, made(15, 32), sealed)
	isNotOpened(t, "the other way round", s, n, append(append(made(15, 32)[16:], sealed...), tag...), made(15, 32)[:16])
	isNotOpened(t, "exchanged", s, n, append(made(15, 32), tag...), sealed)
}

func TestBlocksExchanged(t *testing.T) { // P8.2
	s, n := newOf(t, made(16, 16)), madeNonce(17)
	sealed := sealOf(t, s, n, make([]byte, 48))
	other := bytes.Clone(sealed)
	copy(other, sealed[16:32])
	copy(other[16:], sealed[:16])
	isNotOpened(t, "blocks exchanged", s, n, other)
}

func TestAnotherKeyOpensNothing(t *testing.T) { // P8.2
	for _, keyLength := range keyLengths {
		key, n, aad := made(18, keyLength), madeNonce(19), made(20, 7)
		sealed := sealOf(t, newOf(t, key), n, made(21, 20), aad)
		for bit := range 8 * keyLength {
			isNotOpened(t, fmt.Sprintf("the key's bit %d turned", bit), newOf(t, turned(key, bit)), n, sealed, aad)
		}
	}
	half := made(22, 16)
	n := madeNonce(23)
	sealed := sealOf(t, newOf(t, half), n, []byte("abc"))
	isNotOpened(t, "twice the key", newOf(t, append(bytes.Clone(half), half...)), n, sealed)
}

func TestTheTagOfAnotherText(t *testing.T) { // P8.2
	s, n := newOf(t, made(24, 16)), madeNonce(25)
	one, other := sealOf(t, s, n, []byte("yes")), sealOf(t, s, n, []byte("no!"))
	isNotOpened(t, "one's bytes, the other's tag", s, n, append(one[:3:3], other[3:]...))
	isNotOpened(t, "the other way round", s, n, append(other[:3:3], one[3:]...))
	later := sealOf(t, s, madeNonce(26), []byte("yes"))
	isNotOpened(t, "the tag of another nonce", s, n, append(one[:3:3], later[3:]...))
}

func TestTwoNoncesSealAsTwo(t *testing.T) { // P8.1: each of a nonce's bytes counts
	s, text := newOf(t, made(27, 16)), make([]byte, 40)
	seen := map[string]gcm.Nonce{}
	for place := range len(gcm.Nonce{}) {
		for a := 1; a < 256; a++ {
			var n gcm.Nonce
			n[place] = byte(a)
			sealed := string(sealOf(t, s, n, text))
			if other, ok := seen[sealed]; ok {
				t.Errorf("with %x and %x: %x", n, other, sealed)
			}
			seen[sealed] = n
		}
	}
}
