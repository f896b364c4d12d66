package hmac_test

import (
	"bytes"
	"testing"

	mac "coffret/hmac"
)

// same holds what Same answers of a and b, either way round.
func same(t *testing.T, a, b []byte, want bool) {
	t.Helper()
	if mac.Same(a, b) != want || mac.Same(b, a) != want {
		t.Errorf("%x and %x: not %v", a, b, want)
	}
}

func TestSameOfSmallTags(t *testing.T) { // P3.1
	for _, c := range []struct {
		a, b string
		want bool
	}{
		{"", "", true}, {"", "\x00", false}, {"", "a", false},
		{"\x00", "\x00", true}, {"\x00", "\x01", false}, {"\x00", "\x80", false}, {"\xff", "\x00", false}, {"\xff", "\xff", true},
		{"\x00", "\x00\x00", false}, {"\x01", "\x01\x00", false}, {"\x01", "\x00\x01", false}, {"\x01", "\x01\x02", false},
		{"ab", "ab", true}, {"ab", "ba", false}, {"ab", "AB", false}, {"ab", "a", false}, {"ab", "b", false}, {"ab", "abab", false},
		{"\x01\x02", "\x02\x01", false}, {"\x01\x01", "\x02\x02", false}, {"\x03\x00", "\x00\x03", false}, {"\xff\x01", "\x00\x00", false},
	} {
		same(t, []byte(c.a), []byte(c.b), c.want)
	}
}

func TestSameOfNilAndEmpty(t *testing.T) { // P3.1
	same(t, nil, nil, true)
	same(t, nil, []byte{}, true)
	same(t, []byte("abc")[:0], nil, true)
	same(t, nil, []byte{0}, false)
	same(t, []byte{}, []byte{0}, false)
}

func TestSameOfAllPairsOfBytes(t *testing.T) { // P3.1
	for x := range 256 {
		for y := range 256 {
			same(t, []byte{byte(x)}, []byte{byte(y)}, x == y)
		}
	}
}

func TestSameWithABitTurned(t *testing.T) { // P3.1
	for _, n := range []int{1, 2, 16, 31, 32, 33, 64, 100} {
		a := made(int64(n), n)
		same(t, a, bytes.Clone(a), true)
		for place := range n {
			for bit := range 8 {
				b := bytes.Clone(a)
				b[place] ^= 1 << bit
				same(t, a, b, false)
			}
		}
	}
}

func TestSameWithTwoBytesTurnedAlike(t *testing.T) { // P3.1
	a := made(1, 32)
	for one := range a {
		for two := range one {
			b := bytes.Clone(a)
			b[one] ^= 0x81 // what a sum of the bytes, or of what they differ by, doesn't see
			b[two] ^= 0x81
			same(t, a, b, false)
			b = bytes.Clone(a)
			b[one]++
			b[two]--
			same(t, a, b, false)
		}
	}
}

func TestSameOfABeginning(t *testing.T) { // P3.1
	for _, all := range [][]byte{made(1, 300), make([]byte, 300)} {
		for _, n := range []int{0, 1, 32, 44, 256, 299} { // 44 and 300 are the same in one byte
			same(t, all, all[:n], false)
			same(t, all, all[300-n:], false)
		}
		same(t, all, all, true)
	}
}

func TestSameOfWhatLiesInOneList(t *testing.T) { // P3.1
	all := []byte("abcabcab")
	same(t, all[:3], all[3:6], true)
	same(t, all[:5], all[3:], true)
	same(t, all[:5], all[2:7], false)
}

func TestSameHoldsKeyedDigests(t *testing.T) { // P3.1
	tag, again := mac.Of([]byte("key"), []byte("abc")), mac.Of([]byte("key"), []byte("ab"), []byte("c"))
	other := mac.Of([]byte("yek"), []byte("abc"))
	same(t, tag[:], again[:], true)
	same(t, tag[:], other[:], false)
	same(t, tag[:], tag[:31], false)
}
