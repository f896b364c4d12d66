package hmac_test

import (
	"os"
	"runtime/debug"
	"syscall"
	"testing"

	mac "coffret/hmac"
)

// pages: three pages of noughts, which the test's end gives back.
func pages(t *testing.T) []byte {
	t.Helper()
	b, err := syscall.Mmap(-1, 0, 3*os.Getpagesize(), syscall.PROT_READ|syscall.PROT_WRITE, syscall.MAP_ANON|syscall.MAP_PRIVATE)
	if err != nil {
		t.Fatal(err)
	}
	t.Cleanup(func() { syscall.Munmap(b) })
	return b
}

// answer is kept, lest the compiler leave out what leads to it.
var answer bool

// looks: whether Same of a and b looks at the page that begins at that place of hidden; who looks at it, panics.
func looks(t *testing.T, hidden []byte, page int, a, b []byte) (seen bool) {
	t.Helper()
	part := hidden[page : page+os.Getpagesize()]
	if err := syscall.Mprotect(part, syscall.PROT_NONE); err != nil {
		t.Fatal(err)
	}
	defer syscall.Mprotect(part, syscall.PROT_READ|syscall.PROT_WRITE)
	defer debug.SetPanicOnFault(debug.SetPanicOnFault(true))
	defer func() { seen = recover() != nil }()
	answer = mac.Same(a, b)
	return false
}

func TestSameGoesOverAllBytes(t *testing.T) { // P3.1
	size := os.Getpagesize()
	hidden, plain := pages(t), pages(t)
	if looks(t, hidden, 0, plain, plain) {
		t.Fatal("a page was looked at that wasn't handed in")
	}
	differs := func(place int) []byte {
		b := make([]byte, len(plain))
		b[place] = 1
		return b
	}
	for what, other := range map[string][]byte{
		"the same bytes":                  plain,
		"the first byte turned":           differs(0),
		"one in the midst turned":         differs(size + 7),
		"the last byte turned":            differs(3*size - 1),
		"nothing":                         nil,
		"one byte":                        plain[:1],
		"one byte less":                   plain[1:],
		"one byte more, the first turned": append([]byte{1}, plain...),
	} {
		for page := 0; page < len(hidden); page += size {
			if !looks(t, hidden, page, hidden, other) || !looks(t, hidden, page, other, hidden) {
				t.Errorf("held against %s, the bytes from %d on aren't gone over", what, page)
			}
		}
	}
}
