package kdf_test

import (
	"bytes"
	"crypto/hkdf"
	"crypto/hmac"
	"crypto/sha256"
	"encoding/hex"
	"fmt"
	"math"
	"math/rand"
	"strings"
	"testing"

	"coffret/api"
	"coffret/kdf"
)

// made: so many bytes, made up from a seed.
func made(seed int64, n int) []byte {
	b := make([]byte, n)
	rand.New(rand.NewSource(seed)).Read(b)
	return b
}

// wantedKey: what another program extracts.
func wantedKey(salt, secret []byte) []byte {
	key, err := hkdf.Extract(sha256.New, secret, salt)
	if err != nil {
		panic(err)
	}
	return key
}

// wanted: what another program expands.
func wanted(key []byte, n int, purpose []byte) []byte {
	b, err := hkdf.Expand(sha256.New, key, string(purpose), n)
	if err != nil {
		panic(err)
	}
	return b
}

// answers: the call answered just these bytes, and OK.
func answers(t *testing.T, what string, want, got []byte, e api.Errno) {
	t.Helper()
	if e != api.OK || !bytes.Equal(got, want) {
		t.Errorf("%s: error %d, %d bytes %.80x, not %.80x", what, e, len(got), got, want)
	}
}

// expands holds Expand against another program.
func expands(t *testing.T, what string, key []byte, n int, purpose []byte) {
	t.Helper()
	got, e := kdf.Expand(key, n, purpose)
	answers(t, what+": Expand", wanted(key, n, purpose), got, e)
}

// derives holds Extract and Derive against another program.
func derives(t *testing.T, what string, salt, secret []byte, n int, purpose []byte) {
	t.Helper()
	key := wantedKey(salt, secret)
	if got := kdf.Extract(salt, secret); !bytes.Equal(got[:], key) {
		t.Errorf("%s: Extract %x, not %x", what, got, key)
	}
	got, e := kdf.Derive(salt, secret, n, purpose)
	answers(t, what+": Derive", wanted(key, n, purpose), got, e)
}

// refuses: Expand and Derive answer the error, and nothing beside it.
func refuses(t *testing.T, want api.Errno, key []byte, n int, purpose ...[]byte) {
	t.Helper()
	if b, e := kdf.Expand(key, n, purpose...); e != want || len(b) != 0 {
		t.Errorf("%d bytes: Expand: error %d, not %d; %d bytes", n, e, want, len(b))
	}
	if b, e := kdf.Derive([]byte("salt"), key, n, purpose...); e != want || len(b) != 0 {
		t.Errorf("%d bytes: Derive: error %d, not %d; %d bytes", n, e, want, len(b))
	}
}

func TestKnownKeys(t *testing.T) { // P4.1
	run := func(from, to int) string {
		var b []byte
		for x := from; x < to; x++ {
			b = append(b, byte(x))
		}
		return string(b)
	}
	for i, c := range []struct{ salt, secret, purpose, key, derived string }{
		{run(0, 13), strings.Repeat("\x0b", 22), run(0xf0, 0xfa), "077709362c2e32df0ddc3f0dc47bba6390b6c73bb50f9c3122ec844ad7c2b3e5",
			"3cb25f25faacd57a90434f64d0362f2a2d2d0a90cf1a5a4c5db02d56ecc4c5bf34007208d5b887185865"},
		{run(0x60, 0xb0), run(0, 0x50), run(0xb0, 0x100), "06a6b88c5853361a06104c9ceb35b45cef760014904671014a193f40c15fc244",
			"b11e398dc80327a1c8e7f78c596a49344f012eda2d4efad8a050cc4c19afa97c59045a99cac7827271cb41c65e590e09da3275600c2f09b8367793a9aca3db71cc30c58179ec3e87c14c01d5c1f3434f1d87"},
		{"", strings.Repeat("\x0b", 22), "", "19ef24a32c717b167f33a91d6f648bdf96596776afdb6377ac434c1c293ccb04",
			"8da4e775a563c18f715f802a063c5a31b8a11f5c5ee1879ec3454e5f3c738d2d9d201395faa4b61a96c8"},
		{"salt", "secret", "purpose", "98e5340f0f4f96d2b80c2a90da0d03cf46c35e9492918cc7af73d9a39efa5981",
			"b7b99896ac44e10f2a1c52c5f3c7eafc5e8ba5e688dafdd2d3ae74e39b953996"},
		{"", "", "", "b613679a0814d9ec772f95d778c35fc5ff1697c493715653c6c712144292c5ad",
			"eb70f01dede9afafa449eee1b1286504e1f62388b3f7dd4f956697b0e828fe18"},
		{strings.Repeat("s", 65), "secret", strings.Repeat("p", 64), "15fb6962d14187a997feb687914a185a72d42cba870a16d2f150b389992af287",
			"f9c89be92e5e29cc2e30a14153bae7cdb96a4808308d3041da1ccaf9536a6bbb6f"},
	} {
		key := kdf.Extract([]byte(c.salt), []byte(c.secret))
		if got := hex.EncodeToString(key[:]); got != c.key {
			t.Errorf("case %d: Extract %s", i, got)
		}
		want, err := hex.DecodeString(c.derived)
		if err != nil {
			t.Fatal(err)
		}
		got, e := kdf.Expand(key[:], len(want), []byte(c.purpose))
		answers(t, fmt.Sprintf("case %d: Expand", i), want, got, e)
		got, e = kdf.Derive([]byte(c.salt), []byte(c.secret), len(want), []byte(c.purpose))
		answers(t, fmt.Sprintf("case %d: Derive", i), want, got, e)
	}
}

func TestTheMostThatIsKnown(t *testing.T) { // P4.1
	b, e := kdf.Expand([]byte("key"), api.MaxOkm, []byte("purpose"))
	if got := fmt.Sprintf("%x", sha256.Sum256(b)); e != api.OK || got != "16c390a217fe03f09185ac9f77456ea395981510962a72481eb23aea2936dd04" {
		t.Errorf("error %d, %d bytes, whose digest is %s", e, len(b), got)
	}
}

func TestAsTheChapterSaysIt(t *testing.T) { // P4.1
	keyed := func(key []byte, pieces ...[]byte) []byte {
		m := hmac.New(sha256.New, key)
		for _, piece := range pieces {
			m.Write(piece)
		}
		return m.Sum(nil)
	}
	salt, secret, purpose := []byte("salt"), []byte("secret"), []byte("purpose")
	key := keyed(salt, secret)
	if got := kdf.Extract(salt, secret); !bytes.Equal(got[:], key) {
		t.Errorf("Extract %x, not %x", got, key)
	}
	block := keyed(key, purpose, []byte{0x01})
	blocks := bytes.Clone(block)
	for number := 2; number <= 255; number++ {
		block = keyed(key, block, purpose, []byte{byte(number)})
		blocks = append(blocks, block...)
	}
	got, e := kdf.Expand(key, 8160, purpose)
	answers(t, "Expand", blocks, got, e)
	got, e = kdf.Derive(salt, secret, 8160, purpose)
	answers(t, "Derive", blocks, got, e)
}

func TestSaltsAndSecretsOfAllShortLengths(t *testing.T) { // P4.1
	for n := range 140 {
		for _, b := range [][]byte{made(int64(n), n), make([]byte, n), bytes.Repeat([]byte{0xff}, n)} {
			derives(t, fmt.Sprintf("salt of %d bytes %.2x..", n, b), b, []byte("secret"), 40, []byte("purpose"))
			derives(t, fmt.Sprintf("secret of %d bytes %.2x..", n, b), []byte("salt"), b, 40, []byte("purpose"))
		}
	}
}

func TestKeysAndPurposesOfAllShortLengths(t *testing.T) { // P4.1
	for n := range 140 {
		for _, b := range [][]byte{made(int64(n), n), make([]byte, n), bytes.Repeat([]byte{0xff}, n)} {
			for _, count := range []int{1, 32, 70} {
				expands(t, fmt.Sprintf("key of %d bytes %.2x..", n, b), b, count, []byte("purpose"))
				expands(t, fmt.Sprintf("purpose of %d bytes %.2x..", n, b), []byte("key"), count, b)
			}
		}
	}
}

func TestEachByteAtEachPlace(t *testing.T) { // P4.1
	for place := range 20 {
		for x := range 256 {
			b := make([]byte, 20)
			b[place] = byte(x)
			what := fmt.Sprintf("%x at %d", x, place)
			expands(t, what+" of a key", b, 40, []byte("purpose"))
			expands(t, what+" of a purpose", []byte("key"), 40, b)
			derives(t, what+" of a salt", b, []byte("secret"), 40, nil)
			derives(t, what+" of a secret", []byte("salt"), b, 40, nil)
		}
	}
}

func TestLongInputs(t *testing.T) { // P4.1
	for _, n := range []int{8160, 8161, 65536, 1<<20 + 9} {
		b := made(int64(n), n)
		what := fmt.Sprintf("%d bytes", n)
		expands(t, what+" of a key", b, 33, []byte("purpose"))
		expands(t, what+" of a purpose", []byte("key"), 33, b)
		derives(t, what+" of a salt", b, []byte("secret"), 33, nil)
		derives(t, what+" of a secret", []byte("salt"), b, 33, nil)
	}
}

func TestSaltAndSecretArentAlike(t *testing.T) { // P4.1
	if kdf.Extract([]byte("a"), []byte("b")) == kdf.Extract([]byte("b"), []byte("a")) {
		t.Error("they lead to the same, either way round")
	}
	one, _ := kdf.Expand([]byte("a"), 32, []byte("b"))
	two, _ := kdf.Expand([]byte("b"), 32, []byte("a"))
	if bytes.Equal(one, two) {
		t.Error("a key and a purpose lead to the same, either way round")
	}
}

func TestNoBytes(t *testing.T) { // P4.1
	for _, purpose := range [][][]byte{nil, {}, {nil}, {[]byte("purpose")}, {[]byte("pur"), []byte("pose")}} {
		got, e := kdf.Expand([]byte("key"), 0, purpose...)
		answers(t, "Expand", nil, got, e)
		got, e = kdf.Expand(nil, 0, purpose...)
		answers(t, "Expand of no key", nil, got, e)
		got, e = kdf.Derive([]byte("salt"), []byte("secret"), 0, purpose...)
		answers(t, "Derive", nil, got, e)
	}
}

func TestAsManyBytesAsAreAsked(t *testing.T) { // P4.1
	key, purpose := []byte("key"), []byte("purpose")
	for n := 0; n <= api.MaxOkm; n++ {
		if n > 100 && n%32 > 1 && n%32 < 31 && n < api.MaxOkm-40 {
			continue
		}
		expands(t, fmt.Sprintf("%d bytes", n), key, n, purpose)
		derives(t, fmt.Sprintf("%d bytes", n), []byte("salt"), key, n, purpose)
	}
}

func TestFewerThanNone(t *testing.T) { // P4.1
	for _, n := range []int{-1, -2, -32, -8160, -8161, -1 << 32, -1<<32 + 40, -1 << 62, math.MinInt + 32, math.MinInt} {
		refuses(t, api.ErrArg, []byte("key"), n)
		refuses(t, api.ErrArg, nil, n, nil)
		refuses(t, api.ErrArg, made(1, 100), n, []byte("pur"), []byte("pose"))
	}
}

func TestMoreThanTheMost(t *testing.T) { // P4.1
	for _, n := range []int{8161, 8162, 8191, 8192, 8193, 65536, 1 << 20, 1<<31 - 1, 1 << 31, 1 << 32, 1<<32 + 40, 1 << 62, math.MaxInt} {
		refuses(t, api.ErrLong, []byte("key"), n)
		refuses(t, api.ErrLong, nil, n, nil)
		refuses(t, api.ErrLong, made(1, 100), n, []byte("pur"), []byte("pose"))
	}
}

func TestNilAndEmptyAreTheSame(t *testing.T) { // P4.1
	salt, purpose := []byte("salt"), []byte("purpose")
	for _, none := range [][]byte{nil, {}, []byte("abc")[:0]} {
		derives(t, "no salt", none, []byte("secret"), 40, purpose)
		derives(t, "no secret", salt, none, 40, purpose)
		derives(t, "nothing", none, none, 40, none)
		expands(t, "no key", none, 40, purpose)
		expands(t, "no purpose", []byte("key"), 40, none)
	}
	want := wanted([]byte("key"), 40, nil)
	for what, pieces := range map[string][][]byte{
		"no list": nil, "an empty list": {}, "a nil piece": {nil}, "empty pieces": {{}, nil, {}},
	} {
		got, e := kdf.Expand([]byte("key"), 40, pieces...)
		answers(t, what, want, got, e)
	}
}

func TestWhatIsRefusedLeadsToNothingLater(t *testing.T) { // P4.1
	for range 3 {
		refuses(t, api.ErrArg, []byte("key"), -1, []byte("purpose"))
		refuses(t, api.ErrLong, []byte("key"), 8161, []byte("purpose"))
		expands(t, "behind errors", []byte("key"), 100, []byte("purpose"))
		derives(t, "behind errors", []byte("salt"), []byte("key"), 100, []byte("purpose"))
	}
}
