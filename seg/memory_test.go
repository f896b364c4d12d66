package seg_test

import (
	"bytes"
	"math/rand"
	"slices"
	"testing"

	"coffret/api"
	"coffret/seg"
	"coffret/vault"
)

// spare: a list with room behind it, which is filled.
func spare(list []api.Record) []api.Record {
	return append(slices.Clone(list), ticks(5)...)[:len(list)]
}

func TestNothingHandedInIsChanged(t *testing.T) { // P15.1: spare room included
	rnd := rand.New(rand.NewSource(1))
	for _, m := range both(400) {
		for _, n := range []int{0, 1, 2, 7, 300} {
			list := spare(anyList(rnd, n))
			was := slices.Clone(list[:n+5])
			seg.Size(list...)
			seg.Sectors(list...)
			for _, l := range seg.Split(list...) {
				_ = append(l, api.Record{})
			}
			b, _, e := seg.Pack(m.v, 1, 0, digest{7}, list...)
			if !slices.Equal(list[:n+5], was) {
				t.Fatalf("%s: %d records are changed", m.what, n)
			}
			if e != api.OK {
				continue
			}
			room := append(bytes.Clone(b), "spare room"...)
			whole := bytes.Clone(room)
			seg.Length(room[:len(b)])
			if _, _, e := seg.Unpack(m.v, 1, 0, digest{7}, room[:len(b)]); e != api.OK || !bytes.Equal(room, whole) {
				t.Fatalf("%s: a frame of %d records is changed, or %d", m.what, n, e)
			}
		}
	}
}

func TestSplitsAreNewMemory(t *testing.T) { // P15.1: they share none with what was handed in, with one another, or with an earlier answer
	list := spare(ticks(600))
	was := slices.Clone(list)
	first := seg.Split(list...)
	second := seg.Split(list...)
	again := seg.Split(first[0]...)
	clear(list)
	for _, lists := range [][][]api.Record{first, second} {
		if !slices.Equal(slices.Concat(lists...), was) {
			t.Fatal("what is written into a list behind the call is seen")
		}
	}
	for i, l := range first {
		if cap(l) != len(l) {
			t.Errorf("behind list %d is room for %d", i, cap(l)-len(l))
		}
		_ = append(l, api.Record{Kind: 99})
	}
	if !slices.Equal(slices.Concat(first...), was) {
		t.Error("what is put behind a list stands in the next one")
	}
	for i := range first {
		clear(first[i])
		if !slices.Equal(slices.Concat(first[i+1:]...), was[len(was)-len(slices.Concat(first[i+1:]...)):]) {
			t.Errorf("list %d shares memory with another", i)
		}
	}
	if !slices.Equal(slices.Concat(second...), was) || !slices.Equal(again[0], was[:259]) {
		t.Error("two answers share memory")
	}
}

func TestFramesAreNewMemory(t *testing.T) { // P15.1: and what is handed in isn't kept
	list := bodies(3, 40)
	for _, m := range both(9) {
		b, d, _ := seg.Pack(m.v, 1, 0, digest{7}, list...)
		c, _, _ := seg.Pack(m.v, 1, 0, digest{7}, list...)
		was := bytes.Clone(c)
		clear(b[:cap(b)])
		if !bytes.Equal(c, was) {
			t.Errorf("%s: two frames share memory", m.what)
		}
		if again, to, e := seg.Pack(m.v, 1, 0, digest{7}, list...); e != api.OK || to != d || !bytes.Equal(again, was) {
			t.Errorf("%s: a frame shares memory with what a vault keeps", m.what)
		}
		one, _, _ := seg.Unpack(m.v, 1, 0, digest{7}, c)
		other, _, _ := seg.Unpack(m.v, 1, 0, digest{7}, c)
		clear(c)
		clear(one[:cap(one)])
		if !slices.Equal(other, list) {
			t.Errorf("%s: records share memory with a frame, or with others", m.what)
		}
		if got, _, e := seg.Unpack(m.v, 1, 0, digest{7}, was); e != api.OK || !slices.Equal(got, list) {
			t.Errorf("%s: %d", m.what, e)
		}
	}
}

func TestEmptyIsNil(t *testing.T) { // P15.1: nil and empty arguments mean the same
	v := vault.Real(vault.Key{1}, 9)
	if seg.Size([]api.Record{}...) != 48 || seg.Sectors([]api.Record{}...) != 1 || len(seg.Split([]api.Record{}...)) != 0 || seg.Length([]byte{}) != 0 {
		t.Error("of none")
	}
	if _, _, e := seg.Unpack(v, 1, 0, digest{}, []byte{}); e != api.ErrForm {
		t.Errorf("Unpack: %d", e)
	}
}
