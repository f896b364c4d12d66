package field_test

import (
	"bytes"
	"math/rand"
	"slices"
	"testing"

	"coffret/field"
)

func TestOrderOfEachTwo(t *testing.T) { // P5.2
	for a := range 256 {
		for b := range a {
			if one, other := field.Times(byte(a), byte(b)), field.Times(byte(b), byte(a)); one != other {
				t.Errorf("%02x times %02x: %02x, or %02x", a, b, one, other)
			}
		}
	}
}

func TestOrderOfMany(t *testing.T) { // P5.2
	rnd := rand.New(rand.NewSource(1))
	for range 2000 {
		list := make([]byte, rnd.Intn(12))
		rnd.Read(list)
		want := field.Times(list...)
		for range 5 {
			rnd.Shuffle(len(list), func(i, j int) { list[i], list[j] = list[j], list[i] })
			if got := field.Times(list...); got != want {
				t.Errorf("%x: %02x, or %02x", list, got, want)
			}
		}
		slices.Sort(list)
		if got := field.Times(list...); got != want {
			t.Errorf("%x: %02x, or %02x", list, got, want)
		}
	}
}

func TestEachThreePutTogether(t *testing.T) { // P5.2
	for a := range 256 {
		for b := range 256 {
			ahead := field.Times(byte(a), byte(b))
			for c := range 256 {
				all := field.Times(byte(a), byte(b), byte(c))
				if got := field.Times(ahead, byte(c)); got != all {
					t.Fatalf("(%02x %02x) %02x: %02x, not %02x", a, b, c, got, all)
				}
				if got := field.Times(byte(a), field.Times(byte(b), byte(c))); got != all {
					t.Fatalf("%02x (%02x %02x): %02x, not %02x", a, b, c, got, all)
				}
			}
		}
	}
}

// putTogether multiplies a list piece by piece, as choices tell, the rest as one piece.
func putTogether(list, choices []byte) byte {
	var products []byte
	at := 0
	for _, c := range choices {
		end := min(at+int(c/16), len(list))
		products = append(products, field.Times(list[at:end]...))
		at = end
	}
	return field.Times(append(products, field.Times(list[at:]...))...)
}

// putAnyhow holds a list's product, however it is put together, and the other way round, against the chapter's words.
func putAnyhow(t *testing.T, list, choices []byte) {
	t.Helper()
	want := wantedOfAll(list)
	multiplies(t, list...)
	if got := putTogether(list, choices); got != want {
		t.Errorf("%x put together by %v: %02x, not %02x", list, choices, got, want)
	}
	back := bytes.Clone(list)
	slices.Reverse(back)
	if got := putTogether(back, choices); got != want {
		t.Errorf("%x put together by %v: %02x, not %02x", back, choices, got, want)
	}
}

func TestPutTogetherAnyhow(t *testing.T) { // P5.1, P5.2
	rnd := rand.New(rand.NewSource(2))
	for range 20000 {
		list, choices := make([]byte, rnd.Intn(40)), make([]byte, rnd.Intn(10))
		rnd.Read(list)
		rnd.Read(choices)
		putAnyhow(t, list, choices)
	}
}

func FuzzPutTogetherAnyhow(f *testing.F) { // P5.1, P5.2
	f.Add([]byte{0x57, 0x83}, []byte{16})
	f.Add([]byte{0x57, 0x00, 0x83, 0xff}, []byte{0, 33, 255})
	f.Add([]byte{}, []byte{})
	f.Fuzz(putAnyhow)
}

func TestProductIsNothingOfNothingOnly(t *testing.T) { // P5.2
	for a := range 256 {
		for b := range 256 {
			if got := field.Times(byte(a), byte(b)); (got == 0) != (a == 0 || b == 0) {
				t.Errorf("%02x times %02x: %02x", a, b, got)
			}
		}
		if got := field.Twice(byte(a)); (got == 0) != (a == 0) {
			t.Errorf("Twice %02x: %02x", a, got)
		}
		if got := field.Inverse(byte(a)); (got == 0) != (a == 0) {
			t.Errorf("Inverse %02x: %02x", a, got)
		}
	}
}

func TestNothingAmongMany(t *testing.T) { // P5.2
	for length := 1; length < 40; length++ {
		list := bytes.Repeat([]byte{0xff}, length)
		if field.Times(list...) == 0 {
			t.Errorf("%d elements, none of them 0, lead to 0", length)
		}
		for place := range list {
			list[place] = 0
			if got := field.Times(list...); got != 0 {
				t.Errorf("0 at %d of %d: %02x", place, length, got)
			}
			list[place] = 0xff
		}
	}
}

func TestSumsAreMultipliedEach(t *testing.T) { // P5.1
	for a := range 256 {
		for b := range 256 {
			for _, c := range []byte{0x00, 0x01, 0x02, 0x03, 0x57, 0x80, 0xff} {
				if one, other := field.Times(byte(a)^byte(b), c), field.Times(byte(a), c)^field.Times(byte(b), c); one != other {
					t.Errorf("(%02x + %02x) %02x: %02x, or %02x", a, b, c, one, other)
				}
			}
		}
	}
}
