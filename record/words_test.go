package record_test

import (
	"bytes"
	"encoding/binary"
	"fmt"
	"math"
	"strings"
	"testing"

	"coffret/api"
	"coffret/record"
)

// row: the chapter's table, spelt out: of Queue, Id, Num and Wait the least and the greatest, and how many bytes a Body has at most.
type row struct {
	kind   int
	fields [4][2]int
	body   int
}

var rows = []row{
	{1, [4][2]int{{1, 16}, {1, 16}, {1, 64}, {1, 1048576}}, 0},
	{2, [4][2]int{{1, 16}, {0, 0}, {0, 0}, {0, 0}}, 0},
	{3, [4][2]int{{1, 16}, {1, 1099511627776}, {0, 0}, {0, 0}}, 512},
	{4, [4][2]int{{1, 16}, {1, 1099511627776}, {1, 1125899907891200}, {0, 0}}, 0},
	{5, [4][2]int{{1, 16}, {1, 1099511627776}, {0, 0}, {0, 0}}, 0},
	{6, [4][2]int{{1, 16}, {1, 1099511627776}, {0, 0}, {0, 0}}, 0},
	{7, [4][2]int{{0, 0}, {0, 0}, {0, 1125899906842624}, {0, 0}}, 0},
	{8, [4][2]int{{0, 0}, {1, 1099511627776}, {0, 0}, {0, 0}}, 0},
	{9, [4][2]int{{0, 0}, {1, 1099511627776}, {0, 0}, {0, 0}}, 0},
	{10, [4][2]int{{1, 16}, {1, 1099511627776}, {0, 0}, {0, 0}}, 0},
	{11, [4][2]int{{1, 16}, {1, 1099511627776}, {0, 1125899907891200}, {0, 16}}, 512},
	{12, [4][2]int{{1, 16}, {1, 1099511627776}, {0, 0}, {0, 16}}, 512},
	{13, [4][2]int{{1, 16}, {1, 1099511627777}, {0, 0}, {0, 0}}, 0},
}

// at: a record of a kind, of four numbers.
func at(kind int, n [4]int, body string) api.Record {
	return api.Record{Kind: kind, Queue: n[0], Id: n[1], Num: n[2], Wait: n[3], Body: body}
}

// numbers of a record.
func numbers(r api.Record) [4]int {
	return [4]int{r.Queue, r.Id, r.Num, r.Wait}
}

// can: whether a record can be, by the table.
func can(r api.Record) bool {
	for _, w := range rows {
		if w.kind != r.Kind {
			continue
		}
		for i, n := range numbers(r) {
			if n < w.fields[i][0] || n > w.fields[i][1] {
				return false
			}
		}
		return len(r.Body) <= w.body
	}
	return false
}

// layOut: a record's bytes, by the chapter's words, whether it can be or not; of Kind its lowest byte.
func layOut(r api.Record) []byte {
	b := []byte{byte(r.Kind)}
	for _, n := range numbers(r) {
		b = binary.LittleEndian.AppendUint64(b, uint64(n))
	}
	n := len(r.Body)
	return append(append(b, byte(n), byte(n>>8), byte(n>>16)), r.Body...)
}

// pickUp: the record whose bytes b is, by the chapter's words: false, if it is none's.
func pickUp(b []byte) (api.Record, bool) {
	if len(b) < 36 || len(b) != 36+int(b[33])+int(b[34])<<8+int(b[35])<<16 {
		return api.Record{}, false
	}
	var n [4]int
	for i := range n {
		n[i] = int(binary.LittleEndian.Uint64(b[1+8*i:]))
	}
	r := at(int(b[0]), n, string(b[36:]))
	if !can(r) {
		return api.Record{}, false
	}
	return r, true
}

// tell a record, its Body cut short.
func tell(r api.Record) string {
	return fmt.Sprintf("kind %d, %v, a body of %d, %.20q", r.Kind, numbers(r), len(r.Body), r.Body)
}

// holds a record against the chapter's words, by all calls.
func holds(t *testing.T, r api.Record) {
	t.Helper()
	good := can(r)
	if got := record.Good(r); got != good {
		t.Errorf("%s: Good %t", tell(r), got)
	}
	if got := record.Size(r); got != 36+len(r.Body) {
		t.Errorf("%s: Size %d", tell(r), got)
	}
	b, e := record.Put(r)
	switch {
	case good && (e != api.OK || !bytes.Equal(b, layOut(r))):
		t.Errorf("%s: Put: %x, %d", tell(r), b, e)
	case !good && (e != api.ErrArg || len(b) != 0):
		t.Errorf("%s: Put: %x, %d, though it can't be", tell(r), b, e)
	}
	if r.Kind >= 0 && r.Kind < 256 && len(r.Body) < 1<<24 { // else its bytes aren't its own
		reads(t, layOut(r))
	}
}

// reads holds bytes against the chapter's words; whether they are a record's.
func reads(t *testing.T, b []byte) bool {
	t.Helper()
	want, ok := pickUp(b)
	wantE := api.OK
	if !ok {
		wantE = api.ErrForm
	}
	if r, e := record.Get(b); r != want || e != wantE {
		t.Errorf("Get of %d bytes, %.80x: %s, %d, not %s, %d", len(b), b, tell(r), e, tell(want), wantE)
	}
	return ok
}

// edges of a field, of all kinds, and numbers that are in their bounds but for the bits that some integer kinds have no room for.
func edges(w row, i int) []int {
	lo, hi := w.fields[i][0], w.fields[i][1]
	list := []int{lo, hi, lo - 1, hi + 1, lo + 1, hi - 1, (lo + hi) / 2, -lo, -hi, 0, 1, -1, math.MinInt, math.MaxInt}
	for _, bits := range []int{8, 16, 24, 31, 32, 40, 48, 50, 52, 53, 62} {
		list = append(list, hi+1<<bits, lo-1<<bits, 1<<bits, 1<<bits-1)
	}
	return append(list, hi+math.MinInt, 16, 17, 64, 65, 1<<20, 1<<20+1, 1<<40, 1<<40+1, 1<<40+2, 1<<50, 1<<50+1, 1<<50+1<<20, 1<<50+1<<20+1)
}

// all: the records of a kind whose fields are each the least, or each the greatest.
func all(w row) (least, greatest api.Record) {
	var lo, hi [4]int
	for i, f := range w.fields {
		lo[i], hi[i] = f[0], f[1]
	}
	return at(w.kind, lo, ""), at(w.kind, hi, strings.Repeat("x", w.body))
}

func TestTheExample(t *testing.T) { // P13.1: the chapter's
	r := api.Record{Kind: api.RecTick, Num: 5}
	want := "\x07" + strings.Repeat("\x00", 16) + "\x05" + strings.Repeat("\x00", 7+8+3)
	if b, e := record.Put(r); string(b) != want || e != api.OK {
		t.Errorf("Put: %x, %d", b, e)
	}
	if got, e := record.Get([]byte(want)); got != r || e != api.OK {
		t.Errorf("Get: %s, %d", tell(got), e)
	}
	if n := record.Size(r); n != 36 || !record.Good(r) {
		t.Errorf("Size %d, Good %t", n, record.Good(r))
	}
}

func TestBytesOfSome(t *testing.T) { // P13.1: each number in its own place, the lowest byte first, and the Body behind its length
	num := func(b ...byte) string { return string(b) + strings.Repeat("\x00", 8-len(b)) }
	for _, c := range []struct {
		r    api.Record
		want string
	}{
		{api.Record{Kind: 1, Queue: 2, Id: 3, Num: 4, Wait: 0x54321}, "\x01" + num(2) + num(3) + num(4) + num(0x21, 0x43, 5) + "\x00\x00\x00"},
		{api.Record{Kind: 2, Queue: 16}, "\x02" + num(16) + num() + num() + num() + "\x00\x00\x00"},
		{api.Record{Kind: 3, Queue: 1, Id: 0x123456789a, Body: "ab"}, "\x03" + num(1) + num(0x9a, 0x78, 0x56, 0x34, 0x12) + num() + num() + "\x02\x00\x00ab"},
		{api.Record{Kind: 4, Queue: 5, Id: 6, Num: 0x3fedcba987654}, "\x04" + num(5) + num(6) + num(0x54, 0x76, 0x98, 0xba, 0xdc, 0xfe, 3) + num() + "\x00\x00\x00"},
		{api.Record{Kind: 5, Queue: 7, Id: 8}, "\x05" + num(7) + num(8) + num() + num() + "\x00\x00\x00"},
		{api.Record{Kind: 6, Queue: 9, Id: 256}, "\x06" + num(9) + num(0, 1) + num() + num() + "\x00\x00\x00"},
		{api.Record{Kind: 7}, "\x07" + num() + num() + num() + num() + "\x00\x00\x00"},
		{api.Record{Kind: 8, Id: 255}, "\x08" + num() + num(255) + num() + num() + "\x00\x00\x00"},
		{api.Record{Kind: 9, Id: 1 << 40}, "\x09" + num() + num(0, 0, 0, 0, 0, 1) + num() + num() + "\x00\x00\x00"},
		{api.Record{Kind: 10, Queue: 10, Id: 11}, "\x0a" + num(10) + num(11) + num() + num() + "\x00\x00\x00"},
		{api.Record{Kind: 11, Queue: 12, Id: 13, Num: 14, Wait: 15, Body: "\xff\x00\xc3"}, "\x0b" + num(12) + num(13) + num(14) + num(15) + "\x03\x00\x00\xff\x00\xc3"},
		{api.Record{Kind: 12, Queue: 1, Id: 2, Wait: 3, Body: strings.Repeat("y", 258)}, "\x0c" + num(1) + num(2) + num() + num(3) + "\x02\x01\x00" + strings.Repeat("y", 258)},
		{api.Record{Kind: 13, Queue: 1, Id: 1<<40 + 1}, "\x0d" + num(1) + num(1, 0, 0, 0, 0, 1) + num() + num() + "\x00\x00\x00"},
	} {
		if b, e := record.Put(c.r); string(b) != c.want || e != api.OK {
			t.Errorf("%s: Put: %x, %d", tell(c.r), b, e)
		}
		if r, e := record.Get([]byte(c.want)); r != c.r || e != api.OK {
			t.Errorf("%s: Get: %s, %d", tell(c.r), tell(r), e)
		}
	}
}

func TestKindsByTheirNames(t *testing.T) { // P13.1: one of each that can be, and that no other kind's bounds have
	for _, r := range []api.Record{
		{Kind: api.RecMake, Queue: 16, Id: 16, Num: 64, Wait: 1 << 20}, {Kind: api.RecDrop, Queue: 16},
		{Kind: api.RecPut, Queue: 16, Id: 1 << 40, Body: strings.Repeat("b", 512)}, {Kind: api.RecLease, Queue: 16, Id: 1 << 40, Num: 1<<50 + 1<<20},
		{Kind: api.RecAck, Queue: 16, Id: 1 << 40}, {Kind: api.RecNack, Queue: 16, Id: 1 << 40}, {Kind: api.RecBack, Queue: 16, Id: 1 << 40},
		{Kind: api.RecNext, Queue: 16, Id: 1<<40 + 1}, {Kind: api.RecTick, Num: 1 << 50}, {Kind: api.RecTick},
		{Kind: api.RecRevoke, Id: 1 << 40}, {Kind: api.RecMint, Id: 1 << 40},
		{Kind: api.RecState, Queue: 16, Id: 1 << 40, Num: 1<<50 + 1<<20, Wait: 16, Body: strings.Repeat("b", 512)}, {Kind: api.RecState, Queue: 1, Id: 1},
		{Kind: api.RecDead, Queue: 16, Id: 1 << 40, Wait: 16, Body: strings.Repeat("b", 512)}, {Kind: api.RecDead, Queue: 1, Id: 1},
	} {
		if !record.Good(r) {
			t.Errorf("%s can't be", tell(r))
		}
		holds(t, r)
	}
}

func TestEachFieldAtItsEdges(t *testing.T) { // P13.1: the others being each the least, each the greatest
	for _, w := range rows {
		least, greatest := all(w)
		for _, r := range []api.Record{least, greatest} {
			if !record.Good(r) {
				t.Errorf("%s can't be", tell(r))
			}
			for i := range 4 {
				for _, n := range edges(w, i) {
					list := numbers(r)
					list[i] = n
					holds(t, at(w.kind, list, r.Body))
				}
			}
		}
	}
}

func TestAllFieldsTogether(t *testing.T) { // P13.1: of all kinds, the ones that there aren't included
	bodies := []string{"", "x", strings.Repeat("x", 512), strings.Repeat("x", 513)}
	for kind := -2; kind < 18; kind++ {
		for _, queue := range []int{-1, 0, 1, 16, 17} {
			for _, id := range []int{-1, 0, 1, 16, 17, 1 << 40, 1<<40 + 1, 1<<40 + 2} {
				for _, num := range []int{-1, 0, 1, 64, 65, 1 << 50, 1<<50 + 1<<20, 1<<50 + 1<<20 + 1} {
					for _, wait := range []int{-1, 0, 1, 16, 17, 1 << 20, 1<<20 + 1} {
						for _, body := range bodies {
							holds(t, at(kind, [4]int{queue, id, num, wait}, body))
						}
					}
				}
			}
		}
	}
}

func TestBodies(t *testing.T) { // P13.1: of all lengths, and of any bytes
	for _, w := range rows {
		for n := range 600 {
			r, _ := all(w)
			r.Body = strings.Repeat("b", n)
			holds(t, r)
		}
		for _, n := range []int{768, 1024, 65535, 65536, 65537, 65536 + 512, 1 << 17, 1<<24 - 1, 1 << 24, 1<<24 + 1, 1<<24 + 512} {
			_, r := all(w)
			r.Body = strings.Repeat("b", n)
			holds(t, r)
		}
		for c := range 256 {
			_, r := all(w)
			r.Body = strings.Repeat(string([]byte{byte(c)}), w.body)
			holds(t, r)
			r.Body = string([]byte{byte(c)})
			holds(t, r)
		}
	}
}

func TestSizeOfMany(t *testing.T) { // P13.1: a sum, of records whether they can be or not
	if n := record.Size(); n != 0 {
		t.Errorf("Size of none is %d", n)
	}
	if n := record.Size([]api.Record{}...); n != 0 {
		t.Errorf("Size of an empty list is %d", n)
	}
	long := strings.Repeat("z", 70000)
	list := []api.Record{
		{}, {Kind: 3, Queue: 1, Id: 1, Body: "abc"}, {Kind: 3, Queue: 1, Id: 1, Body: "abc"}, {Kind: 99, Queue: -1, Body: "ab"}, {Kind: 5, Body: long},
		{Kind: 7, Num: math.MaxInt}, {Kind: 11, Queue: 1, Id: 1, Body: strings.Repeat("x", 512)}, {Kind: -1, Body: "\xff\xc3"},
	}
	sums := []int{36, 36 + 39, 36 + 39 + 39, 36 + 39 + 39 + 38, 152 + 70036, 152 + 70036 + 36, 152 + 70036 + 36 + 548, 152 + 70036 + 36 + 548 + 38}
	for k, want := range sums {
		if n := record.Size(list[:k+1]...); n != want {
			t.Errorf("Size of the first %d is %d, not %d", k+1, n, want)
		}
	}
	if n := record.Size(make([]api.Record, 100000)...); n != 3600000 {
		t.Errorf("Size of many is %d", n)
	}
}
