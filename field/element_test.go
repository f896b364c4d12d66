package field_test

import (
	"bytes"
	"fmt"
	"math/rand"
	"testing"

	"coffret/field"
)

// wanted: the product of two elements, as the chapter says it: the polynomials are multiplied, and what is left when that is divided by x^8 + x^4 + x^3 + x + 1.
func wanted(a, b byte) byte {
	var product int
	for i := range 8 {
		for j := range 8 {
			if a>>i&1 == 1 && b>>j&1 == 1 {
				product ^= 1 << (i + j)
			}
		}
	}
	for power := 14; power >= 8; power-- {
		if product>>power&1 == 1 {
			product ^= (1<<8 | 1<<4 | 1<<3 | 1<<1 | 1) << (power - 8)
		}
	}
	return byte(product)
}

// wantedOfAll: the product of all of a list, by that of two.
func wantedOfAll(list []byte) byte {
	all := byte(1)
	for _, a := range list {
		all = wanted(all, a)
	}
	return all
}

// multiplies holds Times against the chapter's words.
func multiplies(t *testing.T, list ...byte) {
	t.Helper()
	if got, want := field.Times(list...), wantedOfAll(list); got != want {
		t.Errorf("Times of %d elements %.60x: %02x, not %02x", len(list), list, got, want)
	}
}

func TestKnownProducts(t *testing.T) { // P5.1
	for _, c := range []struct {
		list []byte
		want byte
	}{
		{[]byte{0x57, 0x83}, 0xc1}, // the chapter's, and FIPS 197's
		{[]byte{0x57, 0x13}, 0xfe},
		{[]byte{0x57, 0x01}, 0x57},
		{[]byte{0x57, 0x02}, 0xae},
		{[]byte{0x57, 0x04}, 0x47},
		{[]byte{0x57, 0x08}, 0x8e},
		{[]byte{0x57, 0x10}, 0x07},
		{[]byte{0x53, 0xca}, 0x01},
		{[]byte{0x03, 0x0b}, 0x1d},
		{[]byte{0x02, 0x02, 0x02, 0x02, 0x02, 0x02, 0x02, 0x02}, 0x1b},
		{[]byte{0x57, 0x83, 0x53, 0xca}, 0xc1},
	} {
		if got := field.Times(c.list...); got != c.want {
			t.Errorf("Times of %x: %02x, not %02x", c.list, got, c.want)
		}
	}
}

func TestTwiceOfEachByte(t *testing.T) { // P5.1
	for a := range 256 {
		if got, want := field.Twice(byte(a)), wanted(byte(a), 0x02); got != want {
			t.Errorf("Twice %02x: %02x, not %02x", a, got, want)
		}
	}
	for a, want := range map[byte]byte{0x00: 0x00, 0x01: 0x02, 0x7f: 0xfe, 0x80: 0x1b, 0x81: 0x19, 0xff: 0xe5, 0x57: 0xae, 0xae: 0x47} {
		if got := field.Twice(a); got != want {
			t.Errorf("Twice %02x: %02x, not %02x", a, got, want)
		}
	}
}

func TestProductOfNone(t *testing.T) { // P5.1
	room := []byte{0x57, 0x83}
	for what, list := range map[string][]byte{"a nil list": nil, "an empty list": {}, "a list of spare room alone": room[:0]} {
		if got := field.Times(list...); got != 0x01 {
			t.Errorf("%s: %02x", what, got)
		}
	}
	if got := field.Times(); got != 0x01 {
		t.Errorf("no list: %02x", got)
	}
}

func TestProductOfOne(t *testing.T) { // P5.1
	for a := range 256 {
		if got := field.Times(byte(a)); got != byte(a) {
			t.Errorf("Times of %02x alone: %02x", a, got)
		}
	}
}

func TestProductOfEachTwo(t *testing.T) { // P5.1
	for a := range 256 {
		for b := range 256 {
			multiplies(t, byte(a), byte(b))
		}
	}
}

func TestProductOfMany(t *testing.T) { // P5.1
	rnd := rand.New(rand.NewSource(1))
	for length := range 300 {
		list := make([]byte, length)
		rnd.Read(list)
		multiplies(t, list...)
		for i := range list {
			list[i] |= 1 // no 0 among them
		}
		multiplies(t, list...)
	}
	multiplies(t, bytes.Repeat([]byte{0x02}, 1<<20)...)
	multiplies(t, bytes.Repeat([]byte{0x57, 0x83, 0xff}, 1<<18)...)
}

func TestOneElementManyTimes(t *testing.T) { // P5.1
	for a := range 256 {
		want := byte(1)
		for times := range 260 {
			if got := field.Times(bytes.Repeat([]byte{byte(a)}, times)...); got != want {
				t.Errorf("%02x, %d times: %02x, not %02x", a, times, got, want)
			}
			want = wanted(want, byte(a))
		}
	}
}

func TestInverseOfEachByte(t *testing.T) { // P5.1
	for a := 1; a < 256; a++ {
		got := field.Inverse(byte(a))
		for c := range 256 {
			if is := wanted(byte(a), byte(c)) == 0x01; is != (got == byte(c)) {
				t.Errorf("Inverse %02x: %02x, and the product with %02x is 01: %v", a, got, c, is)
			}
		}
	}
}

func TestKnownInverses(t *testing.T) { // P5.1
	for a, want := range map[byte]byte{0x00: 0x00, 0x01: 0x01, 0x02: 0x8d, 0x8d: 0x02, 0x03: 0xf6, 0x53: 0xca, 0xca: 0x53, 0xff: 0x1c} {
		if got := field.Inverse(a); got != want {
			t.Errorf("Inverse %02x: %02x, not %02x", a, got, want)
		}
	}
}

func TestCallsKnowNothingOfOthers(t *testing.T) { // P5.1
	answers := func(a byte) string {
		return fmt.Sprintf("%x %x %x %x %x", field.Twice(a), field.Times(a, 0x83, a), field.Inverse(a), field.Box(a), field.Back(a))
	}
	var first [256]string
	for a := range 256 {
		first[a] = answers(byte(a))
	}
	rnd := rand.New(rand.NewSource(1))
	for range 3 {
		for _, a := range rnd.Perm(256) {
			if got := answers(byte(a)); got != first[a] {
				t.Errorf("%02x: %s, and first %s", a, got, first[a])
			}
		}
	}
}
