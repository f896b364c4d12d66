package aes_test

import (
	"encoding/hex"
	"testing"

	"coffret/aes"
	"coffret/api"
)

// bytesOf: the bytes that a text tells.
func bytesOf(t *testing.T, text string) []byte {
	t.Helper()
	b, err := hex.DecodeString(text)
	if err != nil {
		t.Fatal(err)
	}
	return b
}

// blockOf: the block that a text tells.
func blockOf(t *testing.T, text string) aes.Block {
	t.Helper()
	b := bytesOf(t, text)
	if len(b) != len(aes.Block{}) {
		t.Fatalf("%s: %d bytes", text, len(b))
	}
	return aes.Block(b)
}

// newOf: a key's Cipher.
func newOf(t *testing.T, key []byte) *aes.Cipher {
	t.Helper()
	c, e := aes.New(key)
	if e != api.OK || c == nil {
		t.Fatalf("New of %x: %v, %d", key, c, e)
	}
	return c
}

// isNoKey: New answers that there can't be such a key.
func isNoKey(t *testing.T, key []byte) {
	t.Helper()
	if c, e := aes.New(key); c != nil || e != api.ErrArg {
		t.Errorf("a key of %d bytes: %v, %d", len(key), c, e)
	}
}

const (
	knownShort = "2b7e151628aed2a6abf7158809cf4f3c"
	knownLong  = "603deb1015ca71be2b73aef0857d77811f352c073b6108d72d9810a30914dff4"
)

// known has keys, blocks, and what the blocks are sealed as.
var known = []struct{ name, key, open, sealed string }{
	{"the chapter's", "00000000000000000000000000000000", "00000000000000000000000000000000", "66e94bd4ef8a2c3b884cfa59ca342b2e"},
	{"FIPS 197, B", knownShort, "3243f6a8885a308d313198a2e0370734", "3925841d02dc09fbdc118597196a0b32"},
	{"FIPS 197, C.1", "000102030405060708090a0b0c0d0e0f", "00112233445566778899aabbccddeeff", "69c4e0d86a7b0430d8cdb78070b4c55a"},
	{"FIPS 197, C.3", "000102030405060708090a0b0c0d0e0f101112131415161718191a1b1c1d1e1f", "00112233445566778899aabbccddeeff", "8ea2b7ca516745bfeafc49904b496089"},
	{"SP 800-38A, F.1.1, 1", knownShort, "6bc1bee22e409f96e93d7e117393172a", "3ad77bb40d7a3660a89ecaf32466ef97"},
	{"SP 800-38A, F.1.1, 2", knownShort, "ae2d8a571e03ac9c9eb76fac45af8e51", "f5d3d58503b9699de785895a96fdbaaf"},
	{"SP 800-38A, F.1.1, 3", knownShort, "30c81c46a35ce411e5fbc1191a0a52ef", "43b1cd7f598ece23881b00e3ed030688"},
	{"SP 800-38A, F.1.1, 4", knownShort, "f69f2445df4f9b17ad2b417be66c3710", "7b0c785e27e8ad3f8223207104725dd4"},
	{"SP 800-38A, F.1.5, 1", knownLong, "6bc1bee22e409f96e93d7e117393172a", "f3eed1bdb5d2a03c064b5a7e3db181f8"},
	{"SP 800-38A, F.1.5, 2", knownLong, "ae2d8a571e03ac9c9eb76fac45af8e51", "591ccb10d410ed26dc5ba74a31362870"},
	{"SP 800-38A, F.1.5, 3", knownLong, "30c81c46a35ce411e5fbc1191a0a52ef", "b6ed21b99ca6f4f9f153e7b1beafed1d"},
	{"SP 800-38A, F.1.5, 4", knownLong, "f69f2445df4f9b17ad2b417be66c3710", "23304b7a39f9f3ff067d8d8f9e24ecc7"},
	{"a long key of noughts", "0000000000000000000000000000000000000000000000000000000000000000", "00000000000000000000000000000000", "dc95c078a2408989ad48a21492842087"},
	{"a key of ones", "ffffffffffffffffffffffffffffffff", "00000000000000000000000000000000", "a1f6258c877d5fcd8964484538bfc92c"},
}

func TestKnownBlocks(t *testing.T) { // P6.1
	for _, k := range known {
		c, open, sealed := newOf(t, bytesOf(t, k.key)), blockOf(t, k.open), blockOf(t, k.sealed)
		if got := c.Seal(open); got != sealed {
			t.Errorf("%s: Seal %x, not %x", k.name, got, sealed)
		}
		if got := c.Open(sealed); got != open {
			t.Errorf("%s: Open %x, not %x", k.name, got, open)
		}
	}
}

func TestRounds(t *testing.T) { // P6.1
	for length, want := range map[int]int{16: 10, 32: 14} {
		c := newOf(t, make([]byte, length))
		if got := c.Rounds(); got != want {
			t.Errorf("a key of %d bytes: %d rounds, not %d", length, got, want)
		}
		c.Seal(aes.Block{})
		c.Open(aes.Block{})
		if got := c.Rounds(); got != want {
			t.Errorf("a key of %d bytes: %d rounds behind sealing and opening", length, got)
		}
	}
}

func TestKeysOfOtherLengths(t *testing.T) { // P6.1
	room := make([]byte, 300)
	for length := range room {
		if length == 16 || length == 32 {
			continue
		}
		isNoKey(t, room[:length:length])
		isNoKey(t, room[:length])
	}
	isNoKey(t, nil)
	isNoKey(t, make([]byte, 1<<20))
}

func TestNoCipher(t *testing.T) { // P6.1
	var c *aes.Cipher
	if got := c.Rounds(); got != 0 {
		t.Errorf("Rounds: %d", got)
	}
	for _, b := range []aes.Block{{}, {1}, {15: 0xff}, blockOf(t, knownShort)} {
		if got := c.Seal(b); got != (aes.Block{}) {
			t.Errorf("Seal of %x: %x", b, got)
		}
		if got := c.Open(b); got != (aes.Block{}) {
			t.Errorf("Open of %x: %x", b, got)
		}
	}
}
