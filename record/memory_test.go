package record_test

import (
	"bytes"
	"slices"
	"strings"
	"testing"

	"coffret/api"
	"coffret/record"
)

// spoil writes over all of b, spare room included.
func spoil(b []byte) {
	b = b[:cap(b)]
	for i := range b {
		b[i] ^= 0xff
	}
}

func TestPutIsNewMemory(t *testing.T) { // P13.1: two answers share none, spare room included
	for n := range 513 {
		r := api.Record{Kind: api.RecPut, Queue: 1, Id: 7, Body: strings.Repeat("b", n)}
		first, _ := record.Put(r)
		second, _ := record.Put(r)
		spoil(first)
		if !bytes.Equal(second, layOut(r)) {
			t.Fatalf("a body of %d: two answers share memory", n)
		}
		third, _ := record.Put(r)
		if !bytes.Equal(third, layOut(r)) || r.Body != strings.Repeat("b", n) {
			t.Fatalf("a body of %d: an answer is kept", n)
		}
	}
}

func TestGetChangesAndKeepsNoBytes(t *testing.T) { // P13.1: what becomes of them behind the call isn't seen
	for _, w := range rows {
		_, want := all(w)
		whole := append(layOut(want), "SPARE ROOM"...)
		part := whole[:len(whole)-len("SPARE ROOM")]
		r, e := record.Get(part)
		for k := range part {
			record.Get(part[:k])
		}
		if string(whole) != string(layOut(want))+"SPARE ROOM" {
			t.Errorf("kind %d: Get changed the bytes: %x", w.kind, whole)
		}
		spoil(part)
		if r != want || e != api.OK {
			t.Errorf("kind %d: Get keeps the bytes: %s, %d", w.kind, tell(r), e)
		}
		noRecord(t, "written over", part)
	}
}

func TestSizeChangesNoList(t *testing.T) { // P13.1
	var list []api.Record
	for _, w := range rows {
		least, greatest := all(w)
		list = append(list, least, greatest, api.Record{Kind: w.kind, Num: -1, Body: "can't be"})
	}
	was := slices.Clone(list)
	record.Size(list[:5]...)
	record.Size(list...)
	if !slices.Equal(list, was) {
		t.Error("Size changed its list")
	}
}

func TestAnswersHangOnWhatIsAskedAlone(t *testing.T) { // P13.1: whatever was asked ahead
	r := api.Record{Kind: api.RecState, Queue: 3, Id: 4, Num: 5, Wait: 6, Body: "as it is"}
	for _, w := range rows {
		least, greatest := all(w)
		for _, other := range []api.Record{least, greatest, {Kind: w.kind, Wait: -1}} {
			b, _ := record.Put(other)
			record.Get(b)
			record.Get(append(b, 0))
			record.Size(other, other)
			holds(t, r)
			thereAndBack(t, r)
		}
	}
}
