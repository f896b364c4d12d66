package ghash_test

import (
	"encoding/hex"
	"testing"

	"coffret/aes"
	"coffret/ghash"
)

// bytesOf: the bytes that a text tells.
func bytesOf(t *testing.T, text string) []byte {
	t.Helper()
	b, err := hex.DecodeString(text)
	if err != nil {
		t.Fatal(err)
	}
	return b
}

// blockOf: the block that a text tells.
func blockOf(t *testing.T, text string) aes.Block {
	t.Helper()
	b := bytesOf(t, text)
	if len(b) != len(aes.Block{}) {
		t.Fatalf("%s: %d bytes", text, len(b))
	}
	return aes.Block(b)
}

const (
	knownH    = "66e94bd4ef8a2c3b884cfa59ca342b2e"
	knownAad  = "feedfacedeadbeeffeedfacedeadbeefabaddad2"
	shortH    = "b83b533708bf535d0aa6e52980d53b78"
	shortText = "42831ec2217774244b7221b784d0d49ce3aa212f2c02a4e035c17e2329aca12e21d514b25466931c7d8f6a5aac84aa051ba30b396a0aac973d58e091"
	longH     = "acbef20579b4b8ebce889bac8732dad7"
	longText  = "522dc1f099567d07f47f37a32a84427d643a8cdcbfe5c0c97598a2bd2555d1aa8cb08e48590dbb3da7b08b1056828838c5f61e6393ba7a0abcc9f662"
)

// known has two texts each, and their sum under an element: of the cases by which GCM was published.
var known = []struct{ name, h, aad, text, want string }{
	{"1", knownH, "", "", "00000000000000000000000000000000"},
	{"2", knownH, "", "0388dace60b6a392f328c2b971b2fe78", "f38cbb1ad69223dcc3457ae5b6b0f885"},
	{"3", shortH, "", shortText + "473f5985", "7f1b32b81b820d02614f8895ac1d4eac"},
	{"4", shortH, knownAad, shortText, "698e57f70e6ecc7fd9463b7260a9ae5f"},
	{"14", "dc95c078a2408989ad48a21492842087", "", "cea7403d4d606b6e074ec5d3baf39d18", "83de425c5edc5d498f382c441041ca92"},
	{"15", longH, "", longText + "898015ad", "4db870d37cb75fcb46097c36230d1612"},
	{"16", longH, knownAad, longText, "8bd0c4d8aacd391e67cca447e8c38f65"},
}

func TestKnownSumsOfTwoTexts(t *testing.T) { // P7.1
	for _, k := range known {
		want := blockOf(t, k.want)
		if got := ghash.Of(blockOf(t, k.h), bytesOf(t, k.aad), bytesOf(t, k.text)); got != want {
			t.Errorf("case %s: %x, not %x", k.name, got, want)
		}
	}
}

func TestKnownProducts(t *testing.T) { // P7.1
	for _, k := range []struct{ a, b, want string }{
		{knownH, "0388dace60b6a392f328c2b971b2fe78", "5e2ec746917062882c85b0685353deb7"}, // GCM's case 2, its first step
		{knownH, "5e2ec746917062882c85b0685353de37", "f38cbb1ad69223dcc3457ae5b6b0f885"}, // its second one
		{"80000000000000000000000000000000", knownH, knownH},
		{"00000000000000000000000000000001", "40000000000000000000000000000000", "e1000000000000000000000000000000"},
	} {
		a, b, want := blockOf(t, k.a), blockOf(t, k.b), blockOf(t, k.want)
		if one, other := ghash.Times(a, b), ghash.Times(b, a); one != want || other != want {
			t.Errorf("%s times %s: %x, and %x, not %s", k.a, k.b, one, other, k.want)
		}
	}
}

func TestKnownSumOfBlocks(t *testing.T) { // P7.1: RFC 8452's, A
	s := ghash.New(blockOf(t, "25629347589242761d31f826ba4b757b"))
	s.Write(bytesOf(t, "4f4f95668c83dfb6401762bb2d01a262d1a24ddd2721d006bbe45f20d3c9f362"))
	if got, want := s.Value(), blockOf(t, "bd9b3997046731fb96251b91f9c99d7a"); got != want {
		t.Errorf("%x, not %x", got, want)
	}
}
