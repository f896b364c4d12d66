package vault

import (
	"coffret/api"
	"coffret/gcm"
	"coffret/hmac"
	"coffret/ideal"
	"coffret/kdf"
	"coffret/sha"
)

// maker makes things, and opens seals. Whatever open can't open is told as ErrSeal, but by no world as ErrNil.
type maker interface {
	seal(at place, text []byte, aad [][]byte) ([]byte, api.Errno)
	open(at place, b []byte, aad [][]byte) ([]byte, api.Errno)
	mac(k Key, pieces [][]byte) [32]byte
	hash(pieces [][]byte) [32]byte
	derive(master Key, purpose []byte) Key
}

// realMaker makes things by layers 2 to 8.
type realMaker struct{}

func (realMaker) seal(at place, text []byte, aad [][]byte) ([]byte, api.Errno) {
	return sealerOf(at.key).Seal(at.nonce, text, aad...)
}

func (realMaker) open(at place, b []byte, aad [][]byte) ([]byte, api.Errno) {
	text, e := sealerOf(at.key).Open(at.nonce, b, aad...)
	if e != api.OK {
		return nil, api.ErrSeal // of what is too long, too: a vault knows no other error there
	}
	return text, api.OK
}

func (realMaker) mac(k Key, pieces [][]byte) [32]byte {
	return hmac.Of(k[:], pieces...)
}

func (realMaker) hash(pieces [][]byte) [32]byte {
	return sha.Of(pieces...)
}

func (realMaker) derive(master Key, purpose []byte) Key {
	b, _ := kdf.Expand(master[:], len(Key{}), purpose) // of so few bytes there is no error
	return Key(b)
}

// sealerOf a key: made anew for each seal, since nothing bounds how many keys there are.
func sealerOf(k Key) *gcm.Sealer {
	s, _ := gcm.New(k[:]) // of 32 bytes there is no error
	return s
}

// idealMaker makes things in a world of layer 9.
type idealMaker struct {
	world *ideal.World
}

func (m idealMaker) seal(at place, text []byte, aad [][]byte) ([]byte, api.Errno) {
	return m.world.Seal(at.key[:], at.nonce[:], text, aad...)
}

func (m idealMaker) open(at place, b []byte, aad [][]byte) ([]byte, api.Errno) {
	return m.world.Open(at.key[:], at.nonce[:], b, aad...)
}

func (m idealMaker) mac(k Key, pieces [][]byte) [32]byte {
	return m.world.Mac(k[:], pieces...)
}

func (m idealMaker) hash(pieces [][]byte) [32]byte {
	return m.world.Hash(pieces...)
}

func (m idealMaker) derive(master Key, purpose []byte) Key {
	return m.world.Derive(master[:], purpose)
}
