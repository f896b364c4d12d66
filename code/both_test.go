package code_test

import (
	"bytes"
	"fmt"
	"math"
	"math/rand"
	"strings"
	"testing"

	"coffret/api"
	"coffret/code"
)

// step is something that is written by one call, and read by one call.
type step struct {
	name  string
	write func(*code.Writer)
	read  func(*code.Reader) bool // whether it was what was written
}

func numStep(n int) step {
	return step{
		fmt.Sprintf("Num(%d)", n),
		func(w *code.Writer) { w.Num(n) },
		func(r *code.Reader) bool { return r.Num() == n },
	}
}

func inStep(n, lo, hi int) step {
	return step{
		fmt.Sprintf("In(%d, %d) of %d", lo, hi, n),
		func(w *code.Writer) { w.Num(n) },
		func(r *code.Reader) bool { return r.In(lo, hi) == n },
	}
}

func textStep(s string, most int) step {
	return step{
		fmt.Sprintf("Text(%d) of %d bytes", most, len(s)),
		func(w *code.Writer) { w.Text(s) },
		func(r *code.Reader) bool { return r.Text(most) == s },
	}
}

func byteStep(list []byte) step {
	return step{
		fmt.Sprintf("Take(%d)", len(list)),
		func(w *code.Writer) { w.Byte(list...) },
		func(r *code.Reader) bool {
			b, ok := r.Take(len(list))
			return ok && bytes.Equal(b, list)
		},
	}
}

// anyNum: a number, small ones and those at the ends of the range often.
func anyNum(rnd *rand.Rand) int {
	switch rnd.Intn(5) {
	case 0:
		return rnd.Intn(7) - 3
	case 1:
		return math.MaxInt - rnd.Intn(3)
	case 2:
		return math.MinInt + rnd.Intn(3)
	case 3:
		return 1<<rnd.Intn(63) - rnd.Intn(2)
	}
	return int(rnd.Uint64())
}

// anyBytes: fewer than most, of all values.
func anyBytes(rnd *rand.Rand, most int) []byte {
	b := make([]byte, rnd.Intn(most))
	rnd.Read(b)
	return b
}

func anyStep(rnd *rand.Rand) step {
	switch rnd.Intn(4) {
	case 0:
		return numStep(anyNum(rnd))
	case 1:
		n, other := anyNum(rnd), anyNum(rnd)
		return inStep(n, min(n, other), max(n, other))
	case 2:
		s := string(anyBytes(rnd, 400))
		return textStep(s, len(s)+rnd.Intn(3))
	}
	return byteStep(anyBytes(rnd, 20))
}

// thereAndBack writes steps, and reads them.
func thereAndBack(t *testing.T, list []step) {
	t.Helper()
	w := &code.Writer{}
	for _, s := range list {
		s.write(w)
	}
	r := code.Read(w.Bytes())
	for i, s := range list {
		if !s.read(r) || !r.Good() {
			t.Fatalf("step %d, %s: not what was written", i, s.name)
		}
	}
	if !r.End() || r.Left() != 0 {
		t.Fatalf("%d bytes are left", r.Left())
	}
}

func TestThereAndBack(t *testing.T) { // P1.2
	thereAndBack(t, nil)
	thereAndBack(t, []step{
		numStep(0), numStep(-1), numStep(math.MinInt), numStep(math.MaxInt), inStep(3, 3, 3),
		textStep("", 0), textStep("ab", 2), textStep(strings.Repeat("x", api.MaxText), api.MaxText), textStep("\xff\x00", math.MaxInt),
		byteStep(nil), byteStep([]byte{0}), byteStep([]byte{255, 0}),
	})
	rnd := rand.New(rand.NewSource(1))
	for range 3000 {
		list := make([]step, rnd.Intn(12))
		for i := range list {
			list[i] = anyStep(rnd)
		}
		thereAndBack(t, list)
	}
}

// backAndThere reads bytes by calls that choices tell, and writes what was answered; whether it came to the end without a fault.
func backAndThere(t *testing.T, b, choices []byte) bool {
	t.Helper()
	r, w := code.Read(b), &code.Writer{}
	for _, c := range choices {
		left := r.Left()
		switch c % 4 {
		case 0:
			w.Num(r.Num())
		case 1:
			w.Num(r.In(-int(c), math.MaxInt))
		case 2:
			w.Text(r.Text(int(c) * 8))
		case 3:
			x, _ := r.Take(int(c) / 4)
			w.Byte(x...)
		}
		if !r.Good() {
			if r.Left() != 0 || r.End() {
				t.Fatalf("%x by %v: Left %d, End %v behind a fault", b, choices, r.Left(), r.End())
			}
			return false
		}
		done := w.Bytes()
		if r.Left() > left || len(done)+r.Left() != len(b) || !bytes.Equal(done, b[:len(done)]) {
			t.Fatalf("%x by %v: written again as %x, %d left", b, choices, done, r.Left())
		}
	}
	if r.End() && !bytes.Equal(w.Bytes(), b) {
		t.Fatalf("%x by %v: written again as %x", b, choices, w.Bytes())
	}
	return r.End()
}

func TestBackAndThere(t *testing.T) { // P1.2
	rnd := rand.New(rand.NewSource(2))
	ends := 0
	for range 60000 {
		b := anyBytes(rnd, 40)
		for i := range b { // many noughts, so that lengths and numbers are often small
			if rnd.Intn(2) == 0 {
				b[i] = 0
			}
		}
		if backAndThere(t, b, anyBytes(rnd, 8)) {
			ends++
		}
	}
	if ends < 200 {
		t.Errorf("only %d were read to their end", ends)
	}
}

func FuzzBackAndThere(f *testing.F) { // P1.2
	f.Add([]byte("\x01\x00\x00\x00\x00\x00\x00\x00\x02\x00\x00ab"), []byte{0, 2})
	f.Add([]byte("\x02\x00\x00abc"), []byte{6, 7})
	f.Add([]byte{}, []byte{3})
	f.Fuzz(func(t *testing.T, b, choices []byte) {
		backAndThere(t, b, choices)
	})
}
