package record_test

import (
	"bytes"
	"math/rand"
	"testing"

	"coffret/api"
	"coffret/record"
)

// anyIn: a number from one to another, the ends and small ones often.
func anyIn(rnd *rand.Rand, lo, hi int) int {
	switch rnd.Intn(4) {
	case 0:
		return lo
	case 1:
		return hi
	case 2:
		return lo + rnd.Intn(min(hi-lo+1, 300))
	}
	return lo + rnd.Intn(hi-lo+1)
}

// anyBody: of at most so many bytes, of any values.
func anyBody(rnd *rand.Rand, most int) string {
	b := make([]byte, anyIn(rnd, 0, most))
	rnd.Read(b)
	return string(b)
}

// anyGood: a record that can be.
func anyGood(rnd *rand.Rand) api.Record {
	w := rows[rnd.Intn(len(rows))]
	var n [4]int
	for i, f := range w.fields {
		n[i] = anyIn(rnd, f[0], f[1])
	}
	return at(w.kind, n, anyBody(rnd, w.body))
}

// thereAndBack: a record that can be.
func thereAndBack(t *testing.T, r api.Record) {
	t.Helper()
	b, e := record.Put(r)
	if e != api.OK || len(b) != record.Size(r) {
		t.Fatalf("%s: Put: %d bytes, %d; Size %d", tell(r), len(b), e, record.Size(r))
	}
	if back, e := record.Get(b); back != r || e != api.OK {
		t.Fatalf("%s: read as %s, %d", tell(r), tell(back), e)
	}
}

// backAndThere: bytes; whether they are a record's.
func backAndThere(t *testing.T, b []byte) bool {
	t.Helper()
	r, e := record.Get(b)
	if e != api.OK {
		if r != (api.Record{}) || e != api.ErrForm {
			t.Fatalf("%.80x: read as %s, %d", b, tell(r), e)
		}
		return false
	}
	if !record.Good(r) {
		t.Fatalf("%.80x: read as %s, that can't be", b, tell(r))
	}
	if again, e := record.Put(r); e != api.OK || !bytes.Equal(again, b) {
		t.Fatalf("%.80x: written again as %.80x, %d", b, again, e)
	}
	return true
}

func TestThereAndBack(t *testing.T) { // P13.2
	for _, w := range rows {
		least, greatest := all(w)
		thereAndBack(t, least)
		thereAndBack(t, greatest)
	}
	rnd := rand.New(rand.NewSource(1))
	for range 50000 {
		thereAndBack(t, anyGood(rnd))
	}
}

func TestManyAreAsManyBytesAsSizeTells(t *testing.T) { // P13.2
	rnd := rand.New(rand.NewSource(2))
	for range 300 {
		list := make([]api.Record, rnd.Intn(40))
		want := 0
		for i := range list {
			list[i] = anyGood(rnd)
			b, _ := record.Put(list[i])
			want += len(b)
		}
		if n := record.Size(list...); n != want {
			t.Fatalf("Size of %d records is %d, not %d", len(list), n, want)
		}
	}
}

func TestNoTwoHaveTheSameBytes(t *testing.T) { // P13.2
	rnd := rand.New(rand.NewSource(3))
	of := map[string]api.Record{}
	for range 50000 {
		r := anyGood(rnd)
		b, _ := record.Put(r)
		if other, ok := of[string(b)]; ok && other != r {
			t.Fatalf("%s and %s are both %.80x", tell(r), tell(other), b)
		}
		of[string(b)] = r
	}
}

func TestBackAndThere(t *testing.T) { // P13.2: of bytes that are nearly a record's
	rnd := rand.New(rand.NewSource(4))
	read := 0
	for range 200000 {
		b := layOut(anyGood(rnd))
		for range rnd.Intn(3) {
			switch i := rnd.Intn(min(len(b), 60)); rnd.Intn(5) {
			case 0:
				b = b[:i+1]
			case 1:
				b = append(b, byte(rnd.Intn(3)))
			case 2:
				b[i] = byte(rnd.Intn(18))
			default:
				b[i] ^= 1 << rnd.Intn(8)
			}
		}
		backAndThere(t, b)
		if reads(t, b) {
			read++
		}
	}
	if read < 60000 || read > 190000 {
		t.Errorf("%d were a record's", read)
	}
}

func FuzzBackAndThere(f *testing.F) { // P13.1, P13.2
	for _, w := range rows {
		least, greatest := all(w)
		f.Add(layOut(least))
		f.Add(layOut(greatest))
	}
	f.Add([]byte{})
	f.Fuzz(func(t *testing.T, b []byte) {
		backAndThere(t, b)
		reads(t, b)
	})
}

func FuzzThereAndBack(f *testing.F) { // P13.1, P13.2
	for _, w := range rows {
		for _, r := range [2]api.Record{at(w.kind, [4]int{1, 1, 1, 1}, ""), at(w.kind, [4]int{16, 1 << 40, 0, 0}, "body")} {
			f.Add(r.Kind, r.Queue, r.Id, r.Num, r.Wait, r.Body)
		}
	}
	f.Fuzz(func(t *testing.T, kind, queue, id, num, wait int, body string) {
		r := at(kind, [4]int{queue, id, num, wait}, body)
		holds(t, r)
		if record.Good(r) {
			thereAndBack(t, r)
		}
	})
}
