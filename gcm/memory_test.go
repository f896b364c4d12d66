package gcm_test

import (
	"bytes"
	"fmt"
	"testing"

	"coffret/api"
	"coffret/gcm"
)

// roomy: b, with spare room of other bytes behind it; and all of that.
func roomy(b []byte) ([]byte, []byte) {
	all := append(bytes.Clone(b), "SPARE ROOM, AS MUCH AS A TAG HAS, AND A BLOCK, AND MORE"...)
	return all[:len(b)], all
}

// spoil writes over all of b, spare room included.
func spoil(b []byte) {
	b = b[:cap(b)]
	for i := range b {
		b[i] = '#'
	}
}

// fewLengths: within a block, whole blocks, and what ends behind one.
var fewLengths = []int{0, 1, 15, 16, 17, 32, 50}

func TestBytesAreNotChanged(t *testing.T) { // P8.3
	for _, keyLength := range keyLengths {
		for _, length := range fewLengths {
			key, allKey := roomy(made(1, keyLength))
			text, allText := roomy(made(2, length))
			aad, allAad := roomy(made(3, length+3))
			more, allMore := roomy(made(4, 5))
			n := madeNonce(5)
			sealed, allSealed := roomy(librarySeal(t, key, n, text, append(made(3, length+3), more...)))
			all := [][]byte{allKey, allText, allAad, allMore, allSealed}
			var want [][]byte
			for _, b := range all {
				want = append(want, bytes.Clone(b))
			}
			s := newOf(t, key)
			pieces := [][]byte{aad, more, {7}, {8}}
			sealOf(t, s, n, text, pieces[:2]...)
			openedAs(t, "roomy", s, n, text, sealed, pieces[:2]...)
			isNotOpened(t, "roomy, another nonce", s, madeNonce(6), sealed, pieces[:2]...)
			isNotOpened(t, "roomy, too few", s, n, sealed[:9], pieces[:2]...)
			for i, b := range all {
				if !bytes.Equal(b, want[i]) {
					t.Errorf("%d bytes: %x, not %x", length, b, want[i])
				}
			}
			if !bytes.Equal(pieces[0], aad) || !bytes.Equal(pieces[1], more) || pieces[2][0] != 7 || pieces[3][0] != 8 {
				t.Errorf("%d bytes: the pieces became %x", length, pieces)
			}
		}
	}
}

func TestBytesAreNotChangedBesideAnError(t *testing.T) { // P8.3
	var none *gcm.Sealer
	s := newOf(t, made(7, 16))
	long := made(8, api.MaxHash+gcm.Tag+1)
	text, all := roomy(made(9, 20))
	want := bytes.Clone(all)
	for _, s := range []*gcm.Sealer{none, s} {
		s.Seal(madeNonce(10), long, text)
		s.Seal(madeNonce(10), text, long)
		s.Open(madeNonce(10), long, text)
		s.Open(madeNonce(10), text, long)
		s.Open(madeNonce(10), text, text)
	}
	if !bytes.Equal(all, want) || !bytes.Equal(long, made(8, api.MaxHash+gcm.Tag+1)) {
		t.Errorf("%x, not %x", all, want)
	}
}

func TestKeyIsNotKept(t *testing.T) { // P8.3
	for _, keyLength := range keyLengths {
		want, n, text := made(11, keyLength), madeNonce(12), made(13, 40)
		key, all := roomy(bytes.Clone(want))
		s := newOf(t, key)
		spoil(all)
		holds(t, "the key written over", s, want, n, text, nil)
		copy(key, made(14, keyLength))
		holds(t, "another key in its place", s, want, n, text, nil)
		holds(t, "the other key", newOf(t, key), bytes.Clone(key), n, text, nil)
	}
}

func TestTextsAreNotKept(t *testing.T) { // P8.3
	for _, length := range fewLengths {
		key, n, want := made(15, 16), madeNonce(16), made(17, length)
		s := newOf(t, key)
		text, aad := bytes.Clone(want), made(18, 20)
		sealed := sealOf(t, s, n, text, aad)
		spoil(text)
		spoil(aad)
		wantSealed := librarySeal(t, key, n, want, made(18, 20))
		if !bytes.Equal(sealed, wantSealed) {
			t.Errorf("%d bytes: what was sealed became %x, not %x", length, sealed, wantSealed)
		}
		opened, e := s.Open(n, sealed, made(18, 20))
		spoil(sealed)
		if e != api.OK || !bytes.Equal(opened, want) {
			t.Errorf("%d bytes: what was opened became %x, %d, not %x", length, opened, e, want)
		}
		holds(t, "behind all that", s, key, n, want, made(18, 20))
	}
}

func TestAnswersAreTheAskersOwn(t *testing.T) { // P8.3
	for _, keyLength := range keyLengths {
		for _, length := range fewLengths {
			key, n := made(19, keyLength), madeNonce(20)
			s := newOf(t, key)
			text, allText := roomy(made(21, length))
			aad, allAad := roomy(made(22, 20))
			sealed := sealOf(t, s, n, text, aad)
			given, allGiven := roomy(sealed)
			opened, _ := s.Open(n, given, aad)
			again, _ := s.Open(n, given, aad)
			spoil(opened)
			if want := made(21, length); !bytes.Equal(again, want) || !bytes.Equal(text, want) {
				t.Errorf("%d bytes: %x, %x, not %x", length, again, text, want)
			}
			want := sealOf(t, s, n, text, aad)
			spoil(sealed)
			if !bytes.Equal(want, given) {
				t.Errorf("%d bytes: two answers share memory: %x, %x", length, want, given)
			}
			spoil(again)
			for i, b := range [][]byte{allText[length:], allAad[20:], allGiven[len(given):]} {
				if _, room := roomy(nil); !bytes.Equal(b, room) {
					t.Errorf("%d bytes: spare room %d became %q", length, i, b)
				}
			}
			holds(t, fmt.Sprintf("%d bytes", length), s, key, n, text, aad)
		}
	}
}

func TestSpareRoomIsNotTakenIn(t *testing.T) { // P8.3
	for _, length := range fewLengths {
		plain := made(23, 16)
		key, _ := roomy(bytes.Clone(plain))
		n := madeNonce(24)
		text, _ := roomy(made(25, length))
		aad, _ := roomy(made(26, length))
		s := newOf(t, key)
		want := librarySeal(t, plain, n, made(25, length), made(26, length))
		sealedAs(t, "roomy", s, n, want, text, aad)
		sealed, _ := roomy(want)
		openedAs(t, "roomy", s, n, made(25, length), sealed, aad)
	}
}

func TestOneListTwice(t *testing.T) { // P8.3: a text and what is known besides may be the same bytes
	key, n, b := made(27, 16), madeNonce(28), made(29, 40)
	s := newOf(t, key)
	want := librarySeal(t, key, n, bytes.Clone(b), bytes.Clone(b))
	sealedAs(t, "the same", s, n, want, b, b)
	sealedAs(t, "the same, in pieces", s, n, want, b, b[:7], b[7:])
	openedAs(t, "the same", s, n, b, want, b)
	about := librarySeal(t, key, n, b, b[10:20])
	sealedAs(t, "a piece of it", s, n, about, b, b[10:20])
	twice := librarySeal(t, key, n, b, append(bytes.Clone(b), b...))
	sealedAs(t, "twice besides", s, n, twice, b, b, b)
	openedAs(t, "twice besides", s, n, b, twice, b, b)
}

func TestNonceIsNotKept(t *testing.T) { // P8.3
	key, n, text := made(30, 16), madeNonce(31), made(32, 20)
	s := newOf(t, key)
	want := librarySeal(t, key, n, text, nil)
	sealed := sealOf(t, s, n, text)
	if n != madeNonce(31) {
		t.Errorf("the nonce became %x", n)
	}
	clear(n[:])
	openedAs(t, "the nonce cleared", s, madeNonce(31), text, sealed)
	sealedAs(t, "the nonce cleared", s, madeNonce(31), want, text)
	holds(t, "a nonce of noughts", s, key, n, text, nil)
}

func TestSealersKnowNothingOfOneAnother(t *testing.T) { // P8.1, P8.3
	var keys [][]byte
	var sealers []*gcm.Sealer
	for seed := range int64(20) {
		keys = append(keys, made(seed, keyLengths[seed%2]))
		sealers = append(sealers, newOf(t, keys[seed]))
	}
	for round := range int64(10) {
		for i, s := range sealers {
			holds(t, "one of many", s, keys[i], madeNonce(round), made(round, int(3*round)), made(round, int(round)))
			isNotOpened(t, "one of many", s, madeNonce(round), made(round, 30))
		}
	}
}
