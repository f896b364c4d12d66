package ideal_test

import (
	"testing"

	"coffret/api"
	"coffret/ideal"
)

// isNotSealed: Seal answers an error, and nothing besides; and nothing was made.
func isNotSealed(t *testing.T, what string, want api.Errno, w *ideal.World, text []byte, known ...[]byte) {
	t.Helper()
	size := w.Size()
	if b, e := w.Seal([]byte("k"), []byte("n"), text, known...); b != nil || e != want {
		t.Errorf("%s: sealed as %s, %d, not %d", what, short(b), e, want)
	}
	if w.Size() != size {
		t.Errorf("%s: Size %d, not %d", what, w.Size(), size)
	}
}

// tooMuch: pieces that have, all together, more bytes than are sealed at once.
func tooMuch() map[string][][]byte {
	const most = api.MaxHash
	half := make([]byte, most/2)
	return map[string][][]byte{
		"one piece":           {make([]byte, most+1)},
		"far more":            {make([]byte, 3*most)},
		"a full one and more": {make([]byte, most), {1}},
		"a byte ahead":        {{1}, nil, make([]byte, most)},
		"two halves and more": {half, half, {}, {1}},
		"one piece often":     {half, half, half, half, half},
	}
}

func TestNilWorld(t *testing.T) { // P9.1
	var w *ideal.World
	for _, b := range [][]byte{nil, {}, []byte("abc"), make([]byte, api.MaxHash+1), bytesOf(1, 'S', 16)} {
		isNotSealed(t, "no world", api.ErrNil, w, b)
		isNotSealed(t, "no world", api.ErrNil, w, b, b)
		if text, e := w.Open(b, b, b, b, b); text != nil || e != api.ErrNil {
			t.Errorf("opened as %x, %d", text, e)
		}
		noughts := [32]byte{}
		if w.Mac(b, b) != noughts || w.Hash(b, b) != noughts || w.Derive(b, b) != noughts {
			t.Errorf("a tag, digest or key that isn't noughts")
		}
	}
	if w.Size() != 0 {
		t.Errorf("Size %d", w.Size())
	}
	if _, e := w.Open(nil, nil, nil); e != api.ErrNil {
		t.Errorf("Open of nothing: %d", e)
	}
	if w.Hash() != [32]byte{} || w.Mac(nil) != [32]byte{} || w.Derive(nil) != [32]byte{} {
		t.Errorf("of nothing: not noughts")
	}
}

func TestTooLong(t *testing.T) { // P9.1
	w := ideal.New()
	isNotSealed(t, "a byte more", api.ErrLong, w, make([]byte, api.MaxHash+1))
	isNotSealed(t, "far more", api.ErrLong, w, make([]byte, 5*api.MaxHash), []byte("a"))
	for what, known := range tooMuch() {
		isNotSealed(t, what, api.ErrLong, w, nil, known...)
		isNotSealed(t, what+", and a text", api.ErrLong, w, []byte("abc"), known...)
		isNotSealed(t, what+", and a long text", api.ErrLong, w, make([]byte, api.MaxHash+1), known...)
	}
}

func TestTooLongIsNotOpened(t *testing.T) { // P9.1: Open knows ErrSeal alone
	w := ideal.New()
	b := sealed(t, w, "k", "n", "abc")
	isNotOpened(t, "far more", w, "k", "n", make([]byte, 5*api.MaxHash))
	isNotOpened(t, "a byte more", w, "k", "n", bytesOf(1, 'S', api.MaxHash+17))
	for what, known := range tooMuch() {
		isNotSealed(t, what, api.ErrLong, w, []byte("abc"), known...)
		isNotOpened(t, what, w, "k", "n", b, known...)
		isNotOpened(t, what+", the next one's bytes", w, "k", "n", bytesOf(2, 'S', 19), known...)
	}
}

func TestAsMuchAsThereMayBe(t *testing.T) { // P9.1
	w := ideal.New()
	full := make([]byte, api.MaxHash)
	for i, known := range [][][]byte{nil, {full}, {full[:9], nil, full[9:], {}}, {full[1:]}} {
		want := []byte{1, 2, 2, 3}[i]
		if b, e := w.Seal(nil, nil, full, known...); e != api.OK || len(b) != api.MaxHash+16 || b[0] != want {
			t.Errorf("sealed as %s, %d, not as thing %d", short(b), e, want)
		}
	}
}

func TestRefusedChangesNothing(t *testing.T) { // P9.1: the next thing has the next number
	w := ideal.New()
	long := make([]byte, api.MaxHash+1)
	for i := range 5 {
		isNotSealed(t, "too long", api.ErrLong, w, long)
		isNotSealed(t, "too much besides", api.ErrLong, w, nil, long)
		isNotOpened(t, "noughts", w, "k", "n", make([]byte, 20))
		isNotOpened(t, "the next one's", w, "k", "n", bytesOf(i+1, 'S', 17))
		if b := sealed(t, w, "k", "n", string([]byte{byte(i)})); int(b[0]) != i+1 {
			t.Errorf("%x, not thing %d", b, i+1)
		}
	}
}
