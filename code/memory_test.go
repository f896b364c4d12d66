package code_test

import (
	"bytes"
	"slices"
	"testing"

	"coffret/code"
)

// roomy: b, with spare room of other bytes behind it; and all of that.
func roomy(b string) ([]byte, []byte) {
	all := append([]byte(b), "SPARE ROOM"...)
	return all[:len(b)], all
}

// spoil writes over all of b, spare room included.
func spoil(b []byte) {
	b = b[:cap(b)]
	for i := range b {
		b[i] = '#'
	}
}

func TestWriterKeepsAndChangesNoList(t *testing.T) { // P1.3
	w := &code.Writer{}
	list, all := roomy("abc")
	w.Byte(list...)
	w.Byte('d')
	if string(all) != "abcSPARE ROOM" {
		t.Errorf("Byte changed its list: %q", all)
	}
	spoil(list)
	nums := []int{1, 2, 3}
	w.Num(nums[:2]...)
	w.Num(9)
	if !slices.Equal(nums, []int{1, 2, 3}) {
		t.Errorf("Num changed its list: %v", nums)
	}
	nums[0], nums[1] = 7, 7
	texts := []string{"x", "y", "z"}
	w.Text(texts[:2]...)
	w.Text("v")
	if !slices.Equal(texts, []string{"x", "y", "z"}) {
		t.Errorf("Text changed its list: %v", texts)
	}
	texts[0], texts[1] = "?", "?"
	want := &code.Writer{}
	want.Byte('a', 'b', 'c', 'd')
	want.Num(1, 2, 9)
	want.Text("x", "y", "v")
	if !bytes.Equal(w.Bytes(), want.Bytes()) {
		t.Errorf("a list was kept: %q", w.Bytes())
	}
}

func TestReaderKeepsAndChangesNoBytes(t *testing.T) { // P1.3
	const b = "\x05\x00\x00\x00\x00\x00\x00\x00\x02\x00\x00abcdef"
	part, all := roomy(b)
	r := code.Read(part)
	r.Num()
	r.Text(2)
	r.Take(1)
	r.Take(99)
	if string(all) != b+"SPARE ROOM" {
		t.Errorf("reading changed the bytes: %q", all)
	}
	r = code.Read(part)
	spoil(part)
	n, s := r.Num(), r.Text(2)
	x, ok := r.Take(4)
	if n != 5 || s != "ab" || string(x) != "cdef" || !ok || !r.End() {
		t.Errorf("the bytes were kept: %d, %q, %q, %v", n, s, x, ok)
	}
}

func TestBytesIsNewMemory(t *testing.T) { // P1.3
	w := &code.Writer{}
	for i := range 70 { // over all lengths, so that there is spare room at many of them
		first, second := w.Bytes(), w.Bytes()
		want := bytes.Clone(first)
		spoil(first)
		if !bytes.Equal(second, want) || !bytes.Equal(w.Bytes(), want) {
			t.Fatalf("of %d bytes two answers share memory", i)
		}
		w.Byte(byte(i))
		if !bytes.Equal(second, want) {
			t.Fatalf("of %d bytes an answer is written on", i)
		}
		spoil(second)
		if got := w.Bytes(); !bytes.Equal(got, append(want, byte(i))) {
			t.Fatalf("behind %d bytes: %q", i, got)
		}
	}
}

func TestTextOutlivesWhatItWasReadOf(t *testing.T) { // P1.3
	b := []byte("\x02\x00\x00ab")
	s := code.Read(b).Text(9)
	spoil(b)
	if s != "ab" {
		t.Errorf("%q", s)
	}
}

func TestTakeIsNewMemory(t *testing.T) { // P1.3
	r := code.Read([]byte("abcdefghij"))
	first, _ := r.Take(3)
	spoil(first)
	none, _ := r.Take(0)
	spoil(none)
	second, _ := r.Take(3)
	if string(second) != "def" {
		t.Errorf("writing on an answer is read: %q", second)
	}
	spoil(first)
	if string(second) != "def" {
		t.Errorf("two answers share memory: %q", second)
	}
	spoil(second)
	if rest, _ := r.Take(4); string(rest) != "ghij" {
		t.Errorf("writing on an answer is read: %q", rest)
	}
}

func TestReadersOfTheSameBytesAreApart(t *testing.T) { // P1.3
	b := []byte("abcd")
	one, two := code.Read(b), code.Read(b)
	one.Take(9)
	if x, ok := two.Take(4); !ok || string(x) != "abcd" {
		t.Errorf("%q, %v", x, ok)
	}
}
