package field_test

import (
	"bytes"
	"testing"

	"coffret/field"
)

func TestListIsNotChanged(t *testing.T) { // P5.1, rule 3
	for length := range 20 {
		all := append(bytes.Repeat([]byte{0x57, 0x83}, length), "SPARE ROOM"...)
		want := bytes.Clone(all)
		field.Times(all[:2*length]...)
		if !bytes.Equal(all, want) {
			t.Errorf("%d elements: %x, not %x", 2*length, all, want)
		}
	}
}

func TestListIsNotKept(t *testing.T) { // P5.1, rule 3
	list := []byte{0x57, 0x83}
	for a := range 256 {
		list[0] = byte(a)
		multiplies(t, list...)
		multiplies(t, 0x57, 0x83)
		multiplies(t)
	}
}
