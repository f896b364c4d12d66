package record_test

import (
	"bytes"
	"math"
	"strings"
	"testing"

	"coffret/api"
	"coffret/record"
)

// cannotBe: by all calls.
func cannotBe(t *testing.T, r api.Record) {
	t.Helper()
	if record.Good(r) {
		t.Errorf("%s can be", tell(r))
	}
	if b, e := record.Put(r); len(b) != 0 || e != api.ErrArg {
		t.Errorf("%s: Put: %x, %d", tell(r), b, e)
	}
}

// noRecord: bytes that are none's.
func noRecord(t *testing.T, what string, b []byte) {
	t.Helper()
	if r, e := record.Get(b); r != (api.Record{}) || e != api.ErrForm {
		t.Errorf("%s: %.80x: Get: %s, %d", what, b, tell(r), e)
	}
}

func TestNoSuchKind(t *testing.T) { // P13.1: whatever its fields are, and whatever a byte of its Kind is
	fields := []api.Record{{}, {Queue: 1}, {Id: 1}, {Num: 5}, {Queue: 1, Id: 1}, {Queue: 1, Id: 1, Num: 1, Wait: 1}, {Queue: 1, Id: 1, Body: "x"}}
	kinds := []int{math.MinInt, math.MaxInt, 1 << 8, 1<<8 + 7, 1<<16 + 3, 1<<32 + 2, 1<<32 + 7, 1<<62 + 7, math.MinInt + 7, -1 << 8, 7 - 1<<8, 2 - 1<<32}
	for kind := -300; kind < 600; kind++ {
		if kind < 1 || kind > 13 {
			kinds = append(kinds, kind)
		}
	}
	for _, kind := range kinds {
		for _, r := range fields {
			r.Kind = kind
			cannotBe(t, r)
			if kind >= 0 && kind < 256 {
				noRecord(t, "no such kind", layOut(r))
			}
		}
	}
}

func TestFieldsThatAKindDoesNotName(t *testing.T) { // P13.1: each must be 0, or empty
	for _, w := range rows {
		least, greatest := all(w)
		for _, good := range []api.Record{least, greatest} {
			for i, f := range w.fields {
				for _, n := range []int{1, -1, 1 << 8, 1 << 32, math.MinInt, math.MaxInt} {
					if f != [2]int{} {
						continue
					}
					list := numbers(good)
					list[i] = n
					r := at(w.kind, list, good.Body)
					cannotBe(t, r)
					noRecord(t, "a field too many", layOut(r))
				}
			}
			if w.body == 0 {
				for _, body := range []string{"x", "\x00", strings.Repeat("x", 512)} {
					good.Body = body
					cannotBe(t, good)
					noRecord(t, "a body too many", layOut(good))
				}
			}
		}
	}
}

func TestABodyOfOneByteTooMany(t *testing.T) { // P13.1: 512 are read, and 513 aren't
	for _, w := range rows {
		if w.body == 0 {
			continue
		}
		_, r := all(w)
		if b, e := record.Put(r); e != api.OK || len(b) != 548 {
			t.Errorf("%s: Put: %d bytes, %d", tell(r), len(b), e)
		}
		for _, n := range []int{513, 514, 1024, 65536, 65537, 1 << 20, 1<<24 - 1} {
			r.Body = strings.Repeat("x", n)
			cannotBe(t, r)
			noRecord(t, "a long body", layOut(r))
		}
		r.Body = strings.Repeat("x", 1<<24)
		cannotBe(t, r)
	}
}

func TestABodyIsCountedInBytes(t *testing.T) { // P13.1: however many runes these are
	for _, w := range rows {
		_, r := all(w)
		r.Body = strings.Repeat("é", w.body/2)
		thereAndBack(t, r)
		for _, body := range []string{"é", "x", "\xff"} {
			longer := r
			longer.Body += body
			cannotBe(t, longer)
			noRecord(t, "a long body", layOut(longer))
		}
	}
}

func TestCutAndPutBehind(t *testing.T) { // P13.1: bytes that are fewer, or more, than a record's
	for _, w := range rows {
		least, greatest := all(w)
		for _, r := range []api.Record{least, greatest, at(w.kind, numbers(least), "body"[:min(w.body, 4)])} {
			b := layOut(r)
			for k := range b {
				noRecord(t, "cut", b[:k])
			}
			for k := 1; k < len(b); k++ {
				noRecord(t, "without its beginning", b[k:])
			}
			for _, more := range []string{"\x00", "x", strings.Repeat("\x00", 8), string(b)} {
				noRecord(t, "more behind it", append(bytes.Clone(b), more...))
			}
			noRecord(t, "more ahead of it", append([]byte{0}, b...))
		}
	}
}

func TestNoBytes(t *testing.T) { // P13.1: nil and empty
	noRecord(t, "nil", nil)
	noRecord(t, "empty", []byte{})
	noRecord(t, "empty, with room behind it", layOut(api.Record{Kind: 7})[:0])
}

func TestOtherLengthsOfABody(t *testing.T) { // P13.1: each length but the one that it has
	for _, n := range []int{0, 1, 2, 255, 256, 511, 512} {
		b := layOut(api.Record{Kind: api.RecPut, Queue: 1, Id: 1, Body: strings.Repeat("x", n)})
		for told := range 1 << 11 {
			b[33], b[34] = byte(told), byte(told>>8)
			if told != n {
				noRecord(t, "another length", b)
			}
		}
		b[33], b[34] = byte(n), byte(n>>8)
		if !reads(t, b) {
			t.Errorf("a body of %d isn't read", n)
		}
		for top := 1; top < 256; top++ {
			b[35] = byte(top)
			noRecord(t, "another length", b)
		}
	}
}

func TestEachByteChanged(t *testing.T) { // P13.1: to all that it can be
	for _, w := range rows {
		least, greatest := all(w)
		for _, r := range []api.Record{least, greatest} {
			b := layOut(r)
			for k := range min(len(b), 40) {
				was := b[k]
				for c := range 256 {
					b[k] = byte(c)
					reads(t, b)
				}
				b[k] = was
			}
		}
	}
}

func TestLotsOfBytes(t *testing.T) { // P13.1: none is a record's
	for _, n := range []int{549, 1000, 1 << 16, 1 << 24, 1<<24 + 36} {
		for c := range 14 {
			b := bytes.Repeat([]byte{byte(c)}, n)
			noRecord(t, "alike", b)
			copy(b, layOut(api.Record{Kind: api.RecPut, Queue: 1, Id: 1, Body: "x"}))
			noRecord(t, "behind a record's", b)
		}
	}
}
