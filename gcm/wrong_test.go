package gcm_test

import (
	"fmt"
	"testing"

	"coffret/api"
	"coffret/gcm"
)

// isNotSealed: Seal answers an error, and nothing besides.
func isNotSealed(t *testing.T, what string, want api.Errno, s *gcm.Sealer, text []byte, aad ...[]byte) {
	t.Helper()
	if got, e := s.Seal(madeNonce(1), text, aad...); got != nil || e != want {
		t.Errorf("%s: sealed as %s, %d, not %d", what, short(got), e, want)
	}
}

// isRefused: Open answers an error, and nothing besides.
func isRefused(t *testing.T, what string, want api.Errno, s *gcm.Sealer, n gcm.Nonce, sealed []byte, aad ...[]byte) {
	t.Helper()
	if got, e := s.Open(n, sealed, aad...); got != nil || e != want {
		t.Errorf("%s: opened as %s, %d, not %d", what, short(got), e, want)
	}
}

// isNotOpened: it isn't what was sealed.
func isNotOpened(t *testing.T, what string, s *gcm.Sealer, n gcm.Nonce, sealed []byte, aad ...[]byte) {
	t.Helper()
	isRefused(t, what, api.ErrSeal, s, n, sealed, aad...)
}

// tooMuch: pieces that have, all together, more bytes than are sealed at once.
func tooMuch() map[string][][]byte {
	const most = api.MaxHash
	return map[string][][]byte{
		"one piece":           {make([]byte, most+1)},
		"far more":            {make([]byte, 3*most)},
		"a full one and more": {make([]byte, most), make([]byte, 1)},
		"a byte ahead":        {make([]byte, 1), nil, make([]byte, most)},
		"two halves and more": {make([]byte, most/2), make([]byte, most/2), {}, make([]byte, 1)},
		"the same piece":      {made(1, most/2), made(1, most/2), made(1, most/2)},
	}
}

func TestNilSealer(t *testing.T) { // P8.1
	var s *gcm.Sealer
	isNotSealed(t, "no text", api.ErrNil, s, nil)
	isNotSealed(t, "a text", api.ErrNil, s, []byte("abc"), []byte("d"))
	isNotSealed(t, "too long", api.ErrNil, s, make([]byte, api.MaxHash+1))
	for length := range 40 {
		isRefused(t, fmt.Sprintf("%d bytes", length), api.ErrNil, s, madeNonce(2), make([]byte, length), []byte("d"))
	}
	isRefused(t, "too long", api.ErrNil, s, madeNonce(2), make([]byte, api.MaxHash+gcm.Tag+1))
	for what, aad := range tooMuch() {
		isNotSealed(t, what, api.ErrNil, s, nil, aad...)
		isRefused(t, what, api.ErrNil, s, madeNonce(2), nil, aad...)
	}
}

func TestTooLongToBeSealed(t *testing.T) { // P8.1
	s := newOf(t, made(3, 16))
	isNotSealed(t, "a byte more", api.ErrLong, s, make([]byte, api.MaxHash+1))
	isNotSealed(t, "far more", api.ErrLong, s, make([]byte, 5*api.MaxHash), []byte("d"))
	for what, aad := range tooMuch() {
		isNotSealed(t, what, api.ErrLong, s, nil, aad...)
		isNotSealed(t, what+", and a text", api.ErrLong, s, []byte("abc"), aad...)
		isNotSealed(t, what+", and a long text", api.ErrLong, s, make([]byte, api.MaxHash+1), aad...)
	}
}

func TestTooLongToBeOpened(t *testing.T) { // P8.1
	s := newOf(t, made(3, 16))
	n := madeNonce(4)
	isRefused(t, "a byte more", api.ErrLong, s, n, make([]byte, api.MaxHash+gcm.Tag+1))
	isRefused(t, "far more", api.ErrLong, s, n, make([]byte, 5*api.MaxHash), []byte("d"))
	for what, aad := range tooMuch() {
		isRefused(t, what, api.ErrLong, s, n, make([]byte, gcm.Tag), aad...)
		isRefused(t, what+", and a text", api.ErrLong, s, n, make([]byte, 99), aad...)
		isRefused(t, what+", and a long text", api.ErrLong, s, n, make([]byte, api.MaxHash+gcm.Tag+1), aad...)
	}
}

func TestTooLongEvenIfTheTagIsRight(t *testing.T) { // P8.1
	key, n := made(5, 16), madeNonce(6)
	s := newOf(t, key)
	text, aad := made(7, api.MaxHash+1), made(8, api.MaxHash+1)
	isRefused(t, "a text", api.ErrLong, s, n, librarySeal(t, key, n, text, nil))
	isRefused(t, "known besides", api.ErrLong, s, n, librarySeal(t, key, n, nil, aad), aad)
}

func TestAsMuchAsThereMayBe(t *testing.T) { // P8.1
	for _, keyLength := range keyLengths {
		key, n := made(9, keyLength), madeNonce(10)
		s := newOf(t, key)
		text, aad := made(11, api.MaxHash), made(12, api.MaxHash)
		want := librarySeal(t, key, n, text, aad)
		sealedAs(t, "both full", s, n, want, text, aad)
		openedAs(t, "both full", s, n, text, want, aad[:7], nil, aad[7:api.MaxHash/2], aad[api.MaxHash/2:], []byte{})
		want[5] ^= 1
		isNotOpened(t, "both full, a bit turned", s, n, want, aad)
	}
}

func TestFewerBytesThanATag(t *testing.T) { // P8.1
	key, n := made(13, 16), madeNonce(14)
	s := newOf(t, key)
	sealed := librarySeal(t, key, n, nil, nil)
	isNotOpened(t, "nothing", s, n, nil)
	for length := range gcm.Tag {
		isNotOpened(t, fmt.Sprintf("%d bytes of a tag", length), s, n, sealed[:length])
		isNotOpened(t, fmt.Sprintf("%d noughts", length), s, n, make([]byte, length), []byte("d"))
		for what, aad := range tooMuch() { // that there are too few is said first
			isNotOpened(t, fmt.Sprintf("%d bytes, %s", length, what), s, n, sealed[:length], aad...)
		}
	}
}

func TestNotSealedAtAll(t *testing.T) { // P8.1
	s := newOf(t, made(15, 16))
	for length := range 100 {
		isNotOpened(t, fmt.Sprintf("%d noughts", length), s, gcm.Nonce{}, make([]byte, length))
		isNotOpened(t, fmt.Sprintf("%d bytes", length), s, madeNonce(16), made(17, length), made(18, 20))
	}
}

func TestRefusedChangesNothing(t *testing.T) { // P8.1: the sealer is as it was
	key, n := made(19, 32), madeNonce(20)
	s := newOf(t, key)
	for range 3 {
		isNotSealed(t, "too long", api.ErrLong, s, make([]byte, api.MaxHash+1))
		isRefused(t, "too long", api.ErrLong, s, n, make([]byte, api.MaxHash+gcm.Tag+1))
		isNotOpened(t, "too few", s, n, []byte("abc"))
		isNotOpened(t, "noughts", s, n, make([]byte, 50))
		holds(t, "behind all that", s, key, n, made(21, 50), made(22, 20))
	}
}
