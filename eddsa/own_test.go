package eddsa

import (
	"bytes"
	"math/rand"
	"testing"
)

// R4: what is handed in, and the room behind its end, is not changed.

func TestWhatIsHandedInStays(t *testing.T) {
	r := rand.New(rand.NewSource(28))
	whole := someBytes(r, 400)
	was := bytes.Clone(whole)
	for n := range 200 {
		seed := [32]byte(someBytes(r, 32))
		wasSeed := seed
		sig, key := Sign(seed, whole[:n]), Key(seed)
		wasKey := key
		room := append(sig[:], whole...)
		wasRoom := bytes.Clone(room)
		mustVerify(t, "with room behind", key, whole[:n], room[:64], true)
		mustVerify(t, "with more behind", key, whole[:n], room[:65], false)
		if !bytes.Equal(whole, was) || !bytes.Equal(room, wasRoom) || seed != wasSeed || key != wasKey {
			t.Fatalf("%d bytes: changed", n)
		}
	}
}

// R4: the room behind the end is not read.

func TestRoomBehindTheEndIsNotRead(t *testing.T) {
	whole := someBytes(rand.New(rand.NewSource(29)), 300)
	for n := range 150 {
		other := bytes.Clone(whole)
		for i := n; i < len(other); i++ {
			other[i] = ^other[i]
		}
		sig := Sign([32]byte{9}, whole[:n])
		if again := Sign([32]byte{9}, other[:n]); again != sig {
			t.Errorf("%d bytes: %x; want %x", n, again, sig)
		}
		mustVerify(t, "other room", Key([32]byte{9}), other[:n], sig[:], true)
	}
}

// Message and signature may lie in the same memory.
func TestMessageAndSignatureInOneRoom(t *testing.T) {
	r := rand.New(rand.NewSource(30))
	for n := range 60 {
		seed, msg := [32]byte(someBytes(r, 32)), someBytes(r, n)
		sig := Sign(seed, msg)
		one := joined(msg, sig[:], msg)
		was := bytes.Clone(one)
		mustVerify(t, "the message ahead", Key(seed), one[:n], one[n:n+64], true)
		mustVerify(t, "the message behind", Key(seed), one[n+64:], one[n:n+64], true)
		mustVerify(t, "the signature in it", Key(seed), one[:n+64], one[n:n+64], false)
		if !bytes.Equal(one, was) {
			t.Errorf("%d bytes: changed", n)
		}
	}
}

// R4: an answer is the caller's own, and what was handed in is not kept. R5: the
// same call answers the same, whatever was called ahead of it.

func TestTheSameAgain(t *testing.T) {
	r := rand.New(rand.NewSource(31))
	type told struct {
		seed, key [32]byte
		sig       [64]byte
		msg       []byte
	}
	var all []told
	for i, seed := range seeds(40) {
		msg := someBytes(r, 5*i)
		handed := bytes.Clone(msg)
		key, sig := Key(seed), Sign(seed, handed)
		all = append(all, told{seed, key, sig, msg})
		for j := range handed {
			handed[j] = ^handed[j]
		}
		sig[0], sig[63], key[0] = ^sig[0], ^sig[63], ^key[0]
		Verify(key, handed, sig[:])
	}
	for _, i := range r.Perm(len(all)) {
		x := all[i]
		if key := Key(x.seed); key != x.key {
			t.Errorf("Key of %x again: %x; want %x", x.seed, key, x.key)
		}
		if sig := Sign(x.seed, x.msg); sig != x.sig {
			t.Errorf("Sign of %s by %x again: %x; want %x", start(x.msg), x.seed, sig, x.sig)
		}
		for range 2 {
			mustVerify(t, "again", x.key, x.msg, x.sig[:], true)
			mustVerify(t, "again, too short", x.key, x.msg, x.sig[:63], false)
		}
	}
}
