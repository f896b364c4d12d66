package gcm_test

import (
	"encoding/hex"
	"testing"

	"coffret/gcm"
)

// bytesOf: the bytes that a text tells.
func bytesOf(t *testing.T, text string) []byte {
	t.Helper()
	b, err := hex.DecodeString(text)
	if err != nil {
		t.Fatal(err)
	}
	return b
}

const (
	noughts    = "00000000000000000000000000000000"
	noNonce    = "000000000000000000000000"
	shortKey   = "feffe9928665731c6d6a8f9467308308"
	longKey    = shortKey + shortKey
	knownNonce = "cafebabefacedbaddecaf888"
	knownText  = "d9313225f88406e5a55909c5aff5269a86a7a9531534f7da2e4c303d8a318a721c3c0c95956809532fcf0e2449a6b525b16aedf5aa0de657ba637b39"
	knownAad   = "feedfacedeadbeeffeedfacedeadbeefabaddad2"
	underShort = "42831ec2217774244b7221b784d0d49ce3aa212f2c02a4e035c17e2329aca12e21d514b25466931c7d8f6a5aac84aa051ba30b396a0aac973d58e091"
	underLong  = "522dc1f099567d07f47f37a32a84427d643a8cdcbfe5c0c97598a2bd2555d1aa8cb08e48590dbb3da7b08b1056828838c5f61e6393ba7a0abcc9f662"
)

// known has keys, nonces, texts, what is known besides, and what is sealed: the cases by which GCM was published, of keys and nonces of these lengths, and IEEE 802.1AE's.
var known = []struct{ name, key, nonce, text, aad, sealed string }{
	{"1", noughts, noNonce, "", "", "58e2fccefa7e3061367f1d57a4e7455a"},
	{"2", noughts, noNonce, noughts, "", "0388dace60b6a392f328c2b971b2fe78ab6e47d42cec13bdf53a67b21257bddf"},
	{"3", shortKey, knownNonce, knownText + "1aafd255", "", underShort + "473f5985" + "4d5c2af327cd64a62cf35abd2ba6fab4"},
	{"4", shortKey, knownNonce, knownText, knownAad, underShort + "5bc94fbc3221a5db94fae95ae7121a47"},
	{"13", noughts + noughts, noNonce, "", "", "530f8afbc74536b9a963b4f1c4cb738b"},
	{"14", noughts + noughts, noNonce, noughts, "", "cea7403d4d606b6e074ec5d3baf39d18d0d1c8a799996bf0265b98b5d48ab919"},
	{"15", longKey, knownNonce, knownText + "1aafd255", "", underLong + "898015ad" + "b094dac5d93471bdec1a502270e3cc6c"},
	{"16", longKey, knownNonce, knownText, knownAad, underLong + "76fc6ece0f4e1768cddf8853bb2d551b"},
	{"802.1AE, nothing but a tag", "ad7a2bd03eac835a6f620fdcb506b345", "12153524c0895e81b2c28465", "", "d609b1f056637a0d46df998d88e5222ab2c2846512153524c0895e8108000f101112131415161718191a1b1c1d1e1f202122232425262728292a2b2c2d2e2f30313233340001", "f09478a9b09007d06f46e9b6a1da25dd"},
}

func TestKnownTexts(t *testing.T) { // P8.1
	for _, k := range known {
		key, n := bytesOf(t, k.key), gcm.Nonce(bytesOf(t, k.nonce))
		text, aad, sealed := bytesOf(t, k.text), bytesOf(t, k.aad), bytesOf(t, k.sealed)
		s := newOf(t, key)
		sealedAs(t, k.name, s, n, sealed, text, aad)
		openedAs(t, k.name, s, n, text, sealed, aad)
		holds(t, k.name, s, key, n, text, aad)
	}
}

func TestNothingBesides(t *testing.T) { // P8.1: pieces that aren't there, and empty ones, are the same
	for _, k := range known {
		if k.aad != "" {
			continue
		}
		n := gcm.Nonce(bytesOf(t, k.nonce))
		text, sealed := bytesOf(t, k.text), bytesOf(t, k.sealed)
		s := newOf(t, bytesOf(t, k.key))
		for _, aad := range [][][]byte{nil, {}, {nil}, {{}}, {nil, {}, nil}} {
			sealedAs(t, k.name, s, n, sealed, text, aad...)
			openedAs(t, k.name, s, n, text, sealed, aad...)
		}
	}
}

func TestNoText(t *testing.T) { // P8.1: nil and empty are the same
	s := newOf(t, make([]byte, 16))
	want := bytesOf(t, known[0].sealed)
	for _, text := range [][]byte{nil, {}, made(1, 9)[:0]} {
		sealedAs(t, "no text", s, gcm.Nonce{}, want, text)
	}
}
