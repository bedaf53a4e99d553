package eddsa

import (
	"bytes"
	"math/rand"
	"testing"
)

// P14.1, M1: the document's example.

func TestExample(t *testing.T) {
	for _, p := range pairs(6) {
		for last := 17; last < 256; last++ {
			sig := bytes.Clone(p.sig)
			sig[63] = byte(last)
			mustVerify(t, "a last byte above 16", p.key, p.msg, sig, false)
		}
	}
}

// known are the signatures that RFC 8032 writes out, in its section 7.1.
func known() []struct{ seed, key, msg, sig string } {
	return []struct{ seed, key, msg, sig string }{
		{
			"9d61b19deffd5a60ba844af492ec2cc44449c5697b326919703bac031cae7f60",
			"d75a980182b10ab7d54bfed3c964073a0ee172f3daa62325af021a68f707511a",
			"",
			"e5564300c360ac729086e2cc806e828a84877f1eb8e5d974d873e065224901555fb8821590a33bacc61e39701cf9b46bd25bf5f0595bbe24655141438e7a100b",
		},
		{
			"4ccd089b28ff96da9db6c346ec114e0f5b8a319f35aba624da8cf6ed4fb8a6fb",
			"3d4017c3e843895a92b70aa74d1b7ebc9c982ccf2ec4968cc0cd55f12af4660c",
			"72",
			"92a009a9f0d4cab8720e820b5f642540a2b27b5416503f8fb3762223ebdb69da085ac1e43e15996e458f3613d0f11d8c387b2eaeb4302aeeb00d291612bb0c00",
		},
		{
			"c5aa8df43f9f837bedb7442f31dcb7b166d38535076f094b85ce3a2e0b4458f7",
			"fc51cd8e6218a1a38da47ed00230f0580816ed13ba3303ac5deb911548908025",
			"af82",
			"6291d657deec24024827e69c3abe01a30ce548a284743a445e3680d7db5ac3ac18ff9b538d16f290ae67f760984dc6594a7c15e9716ed28dc027beceea1ec40a",
		},
		{
			"833fe62409237b9d62ec77587520911e9a759cec1d19755b7da901b96dca3d42",
			"ec172b93ad5e563bf4932c70e1245034c35467ef2efd4d64ebf819683467e2bf",
			"ddaf35a193617abacc417349ae20413112e6fa4e89a97ea20a9eeee64b55d39a2192992a274fc1a836ba3c23a3feebbd454d4423643ce80e2a9ac94fa54ca49f",
			"dc2a4459e7369633a52b1bf277839a00201009a3efbf3ecb69bea2186c26b58909351fc9ac90b3ecfdfbc7c66431e0303dca179c138ac17ad9bef1177331a704",
		},
	}
}

func TestWrittenOut(t *testing.T) {
	for _, x := range known() {
		seed, key, msg, want := [32]byte(unhex(x.seed)), [32]byte(unhex(x.key)), unhex(x.msg), unhex(x.sig)
		if got := Key(seed); got != key {
			t.Errorf("Key of %x: %x; want %x", seed, got, key)
		}
		if got := Sign(seed, msg); !bytes.Equal(got[:], want) {
			t.Errorf("Sign of %x by %x: %x; want %x", msg, seed, got, want)
		}
		mustVerify(t, "written out", key, msg, want, true)
	}
}

// P14.1, M1: Key.

func TestKeyAgainstAnotherLibrary(t *testing.T) {
	all := seeds(300)
	for i := range 256 {
		var seed [32]byte
		seed[i/8] = 1 << (i % 8)
		all = append(all, seed)
	}
	for _, seed := range all {
		if got := Key(seed); got != wantKey(seed) {
			t.Errorf("Key of %x: %x; want %x", seed, got, wantKey(seed))
		}
	}
}

// P14.1, M1: Sign, and Verify of what another library signs.

// mustSign tells if Sign does not answer what another library does, or if
// Verify takes it for none.
func mustSign(t *testing.T, seed [32]byte, msg []byte) {
	t.Helper()
	want := wantSign(seed, msg)
	if got := Sign(seed, msg); !bytes.Equal(got[:], want) {
		t.Errorf("Sign of %s by %x: %x; want %x", start(msg), seed, got, want)
	}
	mustVerify(t, "as another library signs", wantKey(seed), msg, want, true)
}

// A block has 128 bytes: the seed's prefix stands ahead of the message with 32
// of them, R and the key with 64, so that each place of a block's end is met.
func TestSignOfEachLength(t *testing.T) {
	r := rand.New(rand.NewSource(17))
	for n := range 400 {
		mustSign(t, [32]byte(someBytes(r, 32)), someBytes(r, n))
	}
}

func TestSignOfLongMessages(t *testing.T) {
	r := rand.New(rand.NewSource(18))
	for _, n := range []int{1023, 1024, 4095, 4096, 59999, 60000, 60001, 1 << 20} {
		mustSign(t, [32]byte(someBytes(r, 32)), someBytes(r, n))
	}
}

func TestSignOfMessagesAtTheEdges(t *testing.T) {
	for _, seed := range seeds(10) {
		mustSign(t, seed, nil)
		mustSign(t, seed, []byte{})
		for _, x := range []byte{0, 1, 127, 128, 255} {
			for _, n := range []int{1, 2, 31, 32, 33, 64, 128} {
				mustSign(t, seed, bytes.Repeat([]byte{x}, n))
			}
		}
		mustSign(t, seed, seed[:])
	}
}

func TestSignOfEachByte(t *testing.T) {
	for x := range 256 {
		mustSign(t, [32]byte{7}, []byte{byte(x)})
	}
}

// R4: nil and the empty message are the same.
func TestNilAndTheEmptyMessage(t *testing.T) {
	for _, seed := range seeds(5) {
		of, ofEmpty := Sign(seed, nil), Sign(seed, []byte{})
		if of != ofEmpty {
			t.Errorf("by %x: %x of nil, %x of the empty message", seed, of, ofEmpty)
		}
		mustVerify(t, "nil", Key(seed), nil, ofEmpty[:], true)
		mustVerify(t, "empty", Key(seed), []byte{}, of[:], true)
	}
}
