package rsa

import (
	"bytes"
	"encoding/hex"
	"math"
	"testing"

	"affiant/api"
)

// P10.1, I1: Prefix.

func TestPrefixOfTheExample(t *testing.T) {
	got, err := Prefix(api.SHA256)
	if hex.EncodeToString(got) != "3031300d060960864801650304020105000420" || err != api.OK {
		t.Errorf("%x, %d", got, err)
	}
}

func TestPrefixes(t *testing.T) {
	for _, a := range algs() {
		if got, err := Prefix(a.number); hex.EncodeToString(got) != a.prefix || err != api.OK {
			t.Errorf("Prefix(%d): %x, %d; want %s", a.number, got, err, a.prefix)
		}
	}
}

func TestPrefixOfWhatIsNotKnown(t *testing.T) {
	for _, n := range others() {
		if got, err := Prefix(n); len(got) != 0 || err != api.ErrAlgo {
			t.Errorf("Prefix(%d): %x, %d", n, got, err)
		}
	}
}

// P10.1, I1: Message.

// mustMessage tells if Message does not answer the message.
func mustMessage(t *testing.T, a alg, digest []byte, k int) {
	t.Helper()
	got, err := Message(a.number, digest, k)
	if want := wantMessage(a, digest, k); want == nil || !bytes.Equal(got, want) || err != api.OK {
		t.Errorf("Message(%d, %x, %d): %x, %d; want %x", a.number, digest, k, got, err, want)
	}
}

// mustRefuse tells if Message does not answer the error alone.
func mustRefuse(t *testing.T, number int, digest []byte, k int, want api.Errno) {
	t.Helper()
	if got, err := Message(number, digest, k); len(got) != 0 || err != want {
		t.Errorf("Message(%d, %x, %d): %x, %d; want error %d", number, digest, k, got, err, want)
	}
}

func TestMessageThatIsWritten(t *testing.T) {
	want := "0001ffffffffffffffffff00302d300d06096086480165030402040500041c" +
		"23097d223405d8228642a477bda255b32aadbce4bda0b3f7e36c9da7"
	got, err := Message(api.SHA224, digestOf(11, "abc"), 59)
	if hex.EncodeToString(got) != want || err != api.OK {
		t.Errorf("%x, %d; want %s", got, err, want)
	}
}

func TestMessageOfEachLength(t *testing.T) {
	for _, a := range algs() {
		digests := [][]byte{digestOf(a.number, "abc"), make([]byte, a.size), bytes.Repeat([]byte{255}, a.size)}
		for _, digest := range digests {
			for k := a.room; k < 300; k++ {
				mustMessage(t, a, digest, k)
			}
			for _, k := range []int{a.room, 511, 512, 513, 1023, 1024, 1025, 4096, 8190, 8191, 8192} {
				mustMessage(t, a, digest, k)
			}
		}
	}
}

func TestMessageWithoutRoom(t *testing.T) {
	for _, a := range algs() {
		digest := digestOf(a.number, "abc")
		for k := -a.room - 70; k < a.room; k++ {
			mustRefuse(t, a.number, digest, k, api.ErrLimit)
		}
		for n := range 200 {
			mustRefuse(t, a.number, digest, math.MinInt+n, api.ErrLimit)
			mustRefuse(t, a.number, digest, math.MaxInt-n, api.ErrLimit)
		}
		for _, k := range []int{8193, 8194, 8200, 8448, 16384, 65536, 1 << 20, math.MaxInt32, math.MinInt32, 1<<32 + 512, -1 << 32} {
			mustRefuse(t, a.number, digest, k, api.ErrLimit)
		}
	}
}

func TestMessageOfADigestOfAnotherSize(t *testing.T) {
	for _, a := range algs() {
		mustRefuse(t, a.number, nil, 512, api.ErrArg)
		for n := range 300 {
			if n != a.size {
				mustRefuse(t, a.number, make([]byte, n), 512, api.ErrArg)
			}
		}
		for _, n := range []int{a.size + 256, a.size + 65536, 8192} {
			mustRefuse(t, a.number, make([]byte, n), 8192, api.ErrArg)
		}
	}
}

func TestMessageOfWhatIsNotKnown(t *testing.T) {
	for _, n := range others() {
		for _, size := range []int{0, 16, 20, 28, 32, 48, 64} {
			mustRefuse(t, n, make([]byte, size), 512, api.ErrAlgo)
		}
	}
}

// R2: which error is told where several hold.
func TestMessageWithSeveralErrors(t *testing.T) {
	for _, k := range []int{math.MinInt, -1, 0, 1, 45, 8193, math.MaxInt} {
		for _, n := range others() {
			mustRefuse(t, n, nil, k, api.ErrAlgo)
			mustRefuse(t, n, make([]byte, 32), k, api.ErrAlgo)
		}
		for _, a := range algs() {
			for _, size := range []int{0, a.size - 1, a.size + 1, 9000} {
				mustRefuse(t, a.number, make([]byte, size), k, api.ErrArg)
			}
			mustRefuse(t, a.number, make([]byte, a.size), k, api.ErrLimit)
		}
	}
}
