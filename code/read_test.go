package code_test

import (
	"math"
	"strings"
	"testing"

	"coffret/api"
	"coffret/code"
)

// text: a text's bytes, whose length is told as n, whatever it is.
func text(n int, s string) string {
	return string([]byte{byte(n), byte(n >> 8), byte(n >> 16)}) + s
}

// behindFault: all that a reader must answer behind a fault, however often it is asked; and so must a nil one.
func behindFault(t *testing.T, what string, r *code.Reader) {
	t.Helper()
	for range 2 {
		if r.Good() || r.End() || r.Left() != 0 {
			t.Errorf("%s: Good %v, End %v, Left %d", what, r.Good(), r.End(), r.Left())
		}
		for _, n := range []int{0, 1, -1, math.MaxInt, math.MinInt} {
			if b, ok := r.Take(n); ok || len(b) != 0 {
				t.Errorf("%s: Take(%d): %x, %v", what, n, b, ok)
			}
		}
		if n := r.Num(); n != 0 {
			t.Errorf("%s: Num: %d", what, n)
		}
		for _, in := range [][2]int{{0, 0}, {math.MinInt, math.MaxInt}, {1, 2}, {-2, -1}, {2, 1}} {
			if n := r.In(in[0], in[1]); n != 0 {
				t.Errorf("%s: In(%d, %d): %d", what, in[0], in[1], n)
			}
		}
		for _, most := range []int{0, 9, -1, math.MaxInt, math.MinInt} {
			if s := r.Text(most); s != "" {
				t.Errorf("%s: Text(%d): %q", what, most, s)
			}
		}
	}
}

// stands: what a reader without a fault must tell of itself.
func stands(t *testing.T, what string, r *code.Reader, left int) {
	t.Helper()
	if !r.Good() || r.Left() != left || r.End() != (left == 0) {
		t.Errorf("%s: Good %v, Left %d, End %v; %d must be left", what, r.Good(), r.Left(), r.End(), left)
	}
}

func TestTake(t *testing.T) { // P1.1
	r := code.Read([]byte("abcdef"))
	for _, c := range []struct {
		n    int
		want string
		left int
	}{{0, "", 6}, {1, "a", 5}, {3, "bcd", 2}, {0, "", 2}, {2, "ef", 0}, {0, "", 0}, {0, "", 0}} {
		b, ok := r.Take(c.n)
		if !ok || string(b) != c.want {
			t.Errorf("Take(%d): %q, %v, not %q", c.n, b, ok, c.want)
		}
		stands(t, "Take", r, c.left)
	}
	if b, ok := r.Take(1); ok || len(b) != 0 {
		t.Errorf("beyond the end: %q, %v", b, ok)
	}
	behindFault(t, "beyond the end", r)
}

func TestTakeOfWhatIsNotThere(t *testing.T) { // P1.1
	for _, n := range []int{7, 8, 1 << 40, math.MaxInt, -1, -6, math.MinInt} {
		r := code.Read([]byte("abcdef"))
		if b, ok := r.Take(n); ok || len(b) != 0 {
			t.Errorf("Take(%d): %q, %v", n, b, ok)
		}
		behindFault(t, "Take", r)
	}
}

func TestReaderOfNoBytes(t *testing.T) { // P1.1
	for _, b := range [][]byte{nil, {}} {
		r := code.Read(b)
		stands(t, "at first", r, 0)
		if x, ok := r.Take(0); !ok || len(x) != 0 {
			t.Errorf("Take(0): %x, %v", x, ok)
		}
		stands(t, "behind Take(0)", r, 0)
		if r.Num() != 0 {
			t.Error("Num")
		}
		behindFault(t, "Num", r)
	}
}

func TestNumReadsEightBytesLowestFirst(t *testing.T) { // P1.1
	for _, c := range []struct {
		b    string
		want int
	}{
		{"\x00\x00\x00\x00\x00\x00\x00\x00", 0},
		{"\x08\x07\x06\x05\x04\x03\x02\x01", 0x0102030405060708},
		{"\xff\xff\xff\xff\xff\xff\xff\x7f", math.MaxInt},
		{"\xff\xff\xff\xff\xff\xff\xff\xff", -1},
		{"\x00\xff\xff\xff\xff\xff\xff\xff", -256},
		{"\x00\x00\x00\x00\x00\x00\x00\x80", math.MinInt},
	} {
		r := code.Read([]byte(c.b + "x"))
		if n := r.Num(); n != c.want {
			t.Errorf("%x: Num %d, not %d", c.b, n, c.want)
		}
		stands(t, "Num", r, 1)
		r = code.Read([]byte(c.b))
		if n := r.In(c.want, c.want); n != c.want {
			t.Errorf("%x: In %d, not %d", c.b, n, c.want)
		}
		stands(t, "In", r, 0)
	}
}

func TestNumThatEndsTooEarly(t *testing.T) { // P1.1
	for n := range 8 {
		b := []byte(strings.Repeat("\xff", n))
		r := code.Read(b)
		if x := r.Num(); x != 0 {
			t.Errorf("%d bytes: Num %d", n, x)
		}
		behindFault(t, "Num", r)
		r = code.Read(b)
		if x := r.In(math.MinInt, math.MaxInt); x != 0 {
			t.Errorf("%d bytes: In %d", n, x)
		}
		behindFault(t, "In", r)
	}
}

func TestInAtItsBounds(t *testing.T) { // P1.1
	for _, c := range []struct {
		n, lo, hi int
		good      bool
	}{
		{5, 5, 5, true}, {5, 5, 9, true}, {5, 1, 5, true}, {5, 1, 9, true},
		{5, 6, 9, false}, {5, 1, 4, false}, {5, 9, 1, false}, {5, 6, 4, false},
		{0, 0, 0, true}, {0, 1, 9, false}, {0, -9, -1, false},
		{-5, -5, 0, true}, {-5, -4, 0, false}, {-5, -9, -5, true}, {-5, -9, -6, false},
		{math.MinInt, math.MinInt, math.MaxInt, true}, {math.MinInt, math.MinInt + 1, math.MaxInt, false},
		{math.MaxInt, math.MinInt, math.MaxInt, true}, {math.MaxInt, math.MinInt, math.MaxInt - 1, false},
		{5, math.MaxInt, math.MinInt, false},
	} {
		w := &code.Writer{}
		w.Num(c.n)
		w.Byte(1, 2)
		r := code.Read(w.Bytes())
		got := r.In(c.lo, c.hi)
		if c.good {
			if got != c.n {
				t.Errorf("%+v: %d", c, got)
			}
			stands(t, "In", r, 2)
			continue
		}
		if got != 0 {
			t.Errorf("%+v: %d", c, got)
		}
		behindFault(t, "In", r)
	}
}

func TestTextAtMost(t *testing.T) { // P1.1
	long := strings.Repeat("y", api.MaxText)
	for _, c := range []struct {
		s    string
		most int
		good bool
	}{
		{"ab", 2, true}, {"ab", 3, true}, {"ab", math.MaxInt, true},
		{"ab", 1, false}, {"ab", 0, false}, {"ab", -1, false}, {"ab", math.MinInt, false},
		{"", 0, true}, {"", 9, true}, {"", -1, false}, {"", math.MinInt, false},
		{"\x00\xff\xc3ä", 5, true}, {"\x00\xff\xc3ä", 4, false},
		{long[:300], 300, true}, {long[:300], 299, false},
		{long[:api.MaxText-1], math.MaxInt, true},
		{long, api.MaxText, true}, {long, math.MaxInt, true}, {long, api.MaxText - 1, false},
		{long + "y", api.MaxText, false}, {long + "y", api.MaxText + 1, false}, {long + "y", math.MaxInt, false},
		{long + long + long, math.MaxInt, false},
	} {
		r := code.Read([]byte(text(len(c.s), c.s) + "z"))
		got := r.Text(c.most)
		if c.good {
			if got != c.s {
				t.Errorf("%d bytes, Text(%d): %d bytes", len(c.s), c.most, len(got))
			}
			stands(t, "Text", r, 1)
			continue
		}
		if got != "" {
			t.Errorf("%d bytes, Text(%d): %d bytes", len(c.s), c.most, len(got))
		}
		behindFault(t, "Text", r)
	}
}

func TestTextThatEndsTooEarly(t *testing.T) { // P1.1
	for _, b := range []string{
		"", "\x00", "\x00\x00", "\x01", "\x01\x00",
		text(1, ""), text(3, "ab"), text(256, "ab"), text(300, strings.Repeat("x", 299)), text(65536, "ab"), text(1<<24-1, "ab"),
	} {
		r := code.Read([]byte(b))
		if s := r.Text(math.MaxInt); s != "" {
			t.Errorf("%x: %q", b[:min(len(b), 8)], s)
		}
		behindFault(t, "Text", r)
	}
}

func TestFaultIsKeptBehindGoodCalls(t *testing.T) { // P1.1
	start := "\x05\x00\x00\x00\x00\x00\x00\x00" + text(2, "ab") + "cd"
	for what, wrong := range map[string]func(*code.Reader){
		"Take":     func(r *code.Reader) { r.Take(99) },
		"Take(-1)": func(r *code.Reader) { r.Take(-1) },
		"Num":      func(r *code.Reader) { r.Num() },
		"In":       func(r *code.Reader) { r.In(0, math.MaxInt) },
		"Text":     func(r *code.Reader) { r.Text(9) },
	} {
		r := code.Read([]byte(start + "\xff\xff"))
		n, s := r.Num(), r.Text(2)
		b, ok := r.Take(2)
		if n != 5 || s != "ab" || string(b) != "cd" || !ok {
			t.Errorf("%s: ahead of the fault: %d, %q, %q, %v", what, n, s, b, ok)
		}
		stands(t, what, r, 2)
		wrong(r)
		behindFault(t, what, r)
	}
}

func TestAskingChangesNothing(t *testing.T) { // P1.1
	r := code.Read([]byte(text(2, "ab") + "c"))
	for range 3 {
		stands(t, "at first", r, 6)
	}
	if s := r.Text(2); s != "ab" {
		t.Errorf("%q", s)
	}
	for range 3 {
		stands(t, "behind a text", r, 1)
	}
}

func TestNilReader(t *testing.T) { // P1.1
	behindFault(t, "nil", nil)
}
