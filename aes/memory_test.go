package aes_test

import (
	"bytes"
	"testing"

	"coffret/aes"
)

func TestKeyIsNotChanged(t *testing.T) { // P6.3
	for length := range 40 {
		all := append(made(int64(length), length), "SPARE ROOM, AS MUCH AS A KEY HAS"...)
		want := bytes.Clone(all)
		c, _ := aes.New(all[:length])
		c.Seal(aes.Block{1})
		c.Open(aes.Block{2})
		if !bytes.Equal(all, want) {
			t.Errorf("a key of %d bytes: %x, not %x", length, all, want)
		}
	}
}

func TestKeyIsNotKept(t *testing.T) { // P6.3
	for _, length := range lengths {
		want, b := made(1, length), madeBlock(2)
		key := bytes.Clone(want)
		c := newOf(t, key)
		clear(key)
		holds(t, "the key cleared", c, want, b)
		copy(key, made(3, length))
		holds(t, "another key in its place", c, want, b)
		holds(t, "the other key", newOf(t, key), key, b)
	}
}

func TestSpareRoomIsNoKey(t *testing.T) { // P6.3
	all := made(4, 64)
	holds(t, "a short key, more behind it", newOf(t, all[:16]), bytes.Clone(all[:16]), madeBlock(5))
	holds(t, "a long key, more behind it", newOf(t, all[:32]), bytes.Clone(all[:32]), madeBlock(5))
	isNoKey(t, all[:15])
	isNoKey(t, all[:31])
}

func TestBlockIsNeitherChangedNorKept(t *testing.T) { // P6.3
	for _, length := range lengths {
		key := made(6, length)
		c := newOf(t, key)
		b, want := madeBlock(7), madeBlock(7)
		sealed, opened := c.Seal(b), c.Open(b)
		if b != want {
			t.Errorf("the block became %x, not %x", b, want)
		}
		clear(b[:])
		if sealed != c.Seal(want) || opened != c.Open(want) {
			t.Error("an answer was changed behind the call")
		}
	}
}

func TestAnswerIsTheAskersOwn(t *testing.T) { // P6.3
	for _, length := range lengths {
		key, b := made(8, length), madeBlock(9)
		c := newOf(t, key)
		for range 3 {
			sealed, opened := c.Seal(b), c.Open(b)
			clear(sealed[:])
			clear(opened[:])
			holds(t, "behind writing on an answer", c, key, b)
		}
	}
}

func TestCiphersKnowNothingOfOneAnother(t *testing.T) { // P6.1, P6.3
	var keys [][]byte
	var ciphers []*aes.Cipher
	for seed := range int64(20) {
		keys = append(keys, made(seed, lengths[seed%2]))
		ciphers = append(ciphers, newOf(t, keys[seed]))
	}
	for round := range int64(20) {
		for i, c := range ciphers {
			holds(t, "one of many", c, keys[i], madeBlock(round))
		}
		isNoKey(t, made(round, int(round)%16))
	}
}
