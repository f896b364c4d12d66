package code_test

import (
	"math"
	"strings"
	"testing"

	"coffret/code"
)

// written: what a new writer has behind some calls.
func written(calls ...func(*code.Writer)) string {
	w := &code.Writer{}
	for _, call := range calls {
		call(w)
	}
	return string(w.Bytes())
}

func TestExampleOfTheChapter(t *testing.T) { // P1.1
	got := written(func(w *code.Writer) { w.Num(1); w.Text("ab") })
	if got != "\x01\x00\x00\x00\x00\x00\x00\x00\x02\x00\x00ab" {
		t.Errorf("%x", got)
	}
}

func TestNumWritesEightBytesLowestFirst(t *testing.T) { // P1.1
	for _, c := range []struct {
		n    int
		want string
	}{
		{0, "\x00\x00\x00\x00\x00\x00\x00\x00"},
		{1, "\x01\x00\x00\x00\x00\x00\x00\x00"},
		{255, "\xff\x00\x00\x00\x00\x00\x00\x00"},
		{256, "\x00\x01\x00\x00\x00\x00\x00\x00"},
		{0x0102030405060708, "\x08\x07\x06\x05\x04\x03\x02\x01"},
		{1 << 32, "\x00\x00\x00\x00\x01\x00\x00\x00"},
		{math.MaxInt, "\xff\xff\xff\xff\xff\xff\xff\x7f"},
		{-1, "\xff\xff\xff\xff\xff\xff\xff\xff"},
		{-2, "\xfe\xff\xff\xff\xff\xff\xff\xff"},
		{-256, "\x00\xff\xff\xff\xff\xff\xff\xff"},
		{math.MinInt, "\x00\x00\x00\x00\x00\x00\x00\x80"},
		{math.MinInt + 1, "\x01\x00\x00\x00\x00\x00\x00\x80"},
	} {
		if got := written(func(w *code.Writer) { w.Num(c.n) }); got != c.want {
			t.Errorf("Num(%d): %x, not %x", c.n, got, c.want)
		}
	}
}

func TestTextWritesItsLengthInThreeBytes(t *testing.T) { // P1.1
	for _, c := range []struct {
		n    int
		want string
	}{
		{0, "\x00\x00\x00"},
		{1, "\x01\x00\x00"},
		{255, "\xff\x00\x00"},
		{256, "\x00\x01\x00"},
		{65535, "\xff\xff\x00"},
		{65536, "\x00\x00\x01"},
		{65537, "\x01\x00\x01"},
		{1<<24 - 1, "\xff\xff\xff"},
	} {
		s := strings.Repeat("x", c.n)
		if got := written(func(w *code.Writer) { w.Text(s) }); got != c.want+s {
			t.Errorf("Text of %d bytes: %d bytes that begin with %x", c.n, len(got), got[:min(len(got), 8)])
		}
	}
}

func TestTextIsBytesWhateverTheySay(t *testing.T) { // P1.1
	s := "\x00\xff\xc3ä\xe2\x82\n"
	if got := written(func(w *code.Writer) { w.Text(s) }); got != "\x08\x00\x00"+s {
		t.Errorf("%x", got)
	}
}

func TestTextTooLongIsNotWritten(t *testing.T) { // P1.1
	for _, n := range []int{1 << 24, 1<<24 + 1, 1<<24 + 300} {
		long := strings.Repeat("x", n)
		if got := written(func(w *code.Writer) { w.Text(long) }); got != "" {
			t.Errorf("a text of %d bytes alone: %d bytes", n, len(got))
		}
		if got := written(func(w *code.Writer) { w.Text("a", long, "b") }); got != "\x01\x00\x00a\x01\x00\x00b" {
			t.Errorf("a text of %d bytes between others: %d bytes", n, len(got))
		}
	}
}

func TestByteWritesBytesAsTheyAre(t *testing.T) { // P1.1
	all := make([]byte, 256)
	for i := range all {
		all[i] = byte(i)
	}
	if got := written(func(w *code.Writer) { w.Byte(all...) }); got != string(all) {
		t.Errorf("%x", got)
	}
}

func TestListsAreWrittenInOrder(t *testing.T) { // P1.1
	got := written(
		func(w *code.Writer) { w.Byte(9, 8) },
		func(w *code.Writer) { w.Num(3, -1) },
		func(w *code.Writer) { w.Text("b", "", "a") },
		func(w *code.Writer) { w.Byte(7) },
		func(w *code.Writer) { w.Num(0) },
	)
	want := "\x09\x08" +
		"\x03\x00\x00\x00\x00\x00\x00\x00\xff\xff\xff\xff\xff\xff\xff\xff" +
		"\x01\x00\x00b\x00\x00\x00\x01\x00\x00a" +
		"\x07" +
		"\x00\x00\x00\x00\x00\x00\x00\x00"
	if got != want {
		t.Errorf("%x, not %x", got, want)
	}
}

func TestListsWithoutThingsWriteNothing(t *testing.T) { // P1.1
	got := written(
		func(w *code.Writer) { w.Byte(); w.Num(); w.Text() },
		func(w *code.Writer) { w.Byte(nil...); w.Num(nil...); w.Text(nil...) },
		func(w *code.Writer) { w.Byte([]byte{}...); w.Num([]int{}...); w.Text([]string{}...) },
	)
	if got != "" {
		t.Errorf("%x", got)
	}
}

func TestBytesAnswersAllWheneverAsked(t *testing.T) { // P1.1
	var w code.Writer
	if len(w.Bytes()) != 0 {
		t.Error("a zero writer has something")
	}
	want := ""
	for i := range 40 {
		w.Byte(byte(i))
		want += string([]byte{byte(i)})
		for range 2 {
			if got := string(w.Bytes()); got != want {
				t.Fatalf("behind %d bytes: %x", i+1, got)
			}
		}
	}
}

func TestNilWriter(t *testing.T) { // P1.1
	var w *code.Writer
	w.Byte(1)
	w.Num(1)
	w.Text("a")
	w.Byte()
	w.Num()
	w.Text()
	if b := w.Bytes(); len(b) != 0 {
		t.Errorf("%x", b)
	}
}
