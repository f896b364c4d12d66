package field_test

import (
	"encoding/hex"
	"testing"

	"coffret/field"
)

// known is the box's bytes, of 00 to FF, as FIPS 197 has them.
const known = "" +
	"637c777bf26b6fc53001672bfed7ab76" +
	"ca82c97dfa5947f0add4a2af9ca472c0" +
	"b7fd9326363ff7cc34a5e5f171d83115" +
	"04c723c31896059a071280e2eb27b275" +
	"09832c1a1b6e5aa0523bd6b329e32f84" +
	"53d100ed20fcb15b6acbbe394a4c58cf" +
	"d0efaafb434d338545f9027f503c9fa8" +
	"51a3408f929d38f5bcb6da2110fff3d2" +
	"cd0c13ec5f974417c4a77e3d645d1973" +
	"60814fdc222a908846eeb814de5e0bdb" +
	"e0323a0a4906245cc2d3ac629195e479" +
	"e7c8376d8dd54ea96c56f4ea657aae08" +
	"ba78252e1ca6b4c6e8dd741f4bbd8b8a" +
	"703eb5664803f60e613557b986c11d9e" +
	"e1f8981169d98e949b1e87e9ce5528df" +
	"8ca1890dbfe6426841992d0fb054bb16"

// wantedBox: what the box makes of a byte, as the chapter says it, bit by bit; the inverse is looked for.
func wantedBox(b byte) byte {
	var c byte
	for other := range 256 {
		if wanted(b, byte(other)) == 0x01 {
			c = byte(other)
		}
	}
	var made byte
	for i := range 8 {
		bit := byte(0x63) >> i & 1
		for _, on := range []int{0, 4, 5, 6, 7} {
			bit ^= c >> ((i + on) % 8) & 1
		}
		made |= bit << i
	}
	return made
}

func TestBoxOfEachByte(t *testing.T) { // P5.1
	for b := range 256 {
		if got, want := field.Box(byte(b)), wantedBox(byte(b)); got != want {
			t.Errorf("Box %02x: %02x, not %02x", b, got, want)
		}
	}
}

func TestBackOfEachByte(t *testing.T) { // P5.1
	for b := range 256 {
		if got := field.Back(wantedBox(byte(b))); got != byte(b) {
			t.Errorf("Back %02x: %02x, not %02x", wantedBox(byte(b)), got, b)
		}
	}
}

func TestKnownBoxes(t *testing.T) { // P5.1
	made, err := hex.DecodeString(known)
	if err != nil || len(made) != 256 {
		t.Fatal(err, len(made))
	}
	for b, a := range made {
		if got := field.Box(byte(b)); got != a {
			t.Errorf("Box %02x: %02x, not %02x", b, got, a)
		}
		if got := field.Back(a); got != byte(b) {
			t.Errorf("Back %02x: %02x, not %02x", a, got, b)
		}
	}
	if field.Box(0x53) != 0xed || field.Back(0xed) != 0x53 { // the chapter's
		t.Error("53")
	}
}

func TestThereAndBack(t *testing.T) { // P5.2
	for a := range 256 {
		if got := field.Back(field.Box(byte(a))); got != byte(a) {
			t.Errorf("Back behind Box of %02x: %02x", a, got)
		}
		if got := field.Box(field.Back(byte(a))); got != byte(a) {
			t.Errorf("Box behind Back of %02x: %02x", a, got)
		}
	}
}

// eachOnce: a call answers each byte, of one byte only.
func eachOnce(t *testing.T, what string, call func(byte) byte) {
	t.Helper()
	var seen [256]int
	for a := range 256 {
		seen[call(byte(a))]++
	}
	for a, times := range seen {
		if times != 1 {
			t.Errorf("%s answers %02x %d times", what, a, times)
		}
	}
}

func TestEachByteIsMadeOfOneAlone(t *testing.T) { // P5.2
	eachOnce(t, "Box", field.Box)
	eachOnce(t, "Back", field.Back)
	eachOnce(t, "Inverse", field.Inverse)
	eachOnce(t, "Twice", field.Twice)
}

func TestNoByteIsBoxedAsItIs(t *testing.T) { // P5.1
	for a := range 256 {
		if got := field.Box(byte(a)); got == byte(a) || got == ^byte(a) {
			t.Errorf("Box %02x: %02x", a, got)
		}
	}
}
