package armor

import (
	"bytes"
	"math/rand"
	"slices"
	"strings"
	"testing"

	"affiant/api"
)

// spoil writes into a list's bytes and into the room behind its end.
func spoil(b []byte) {
	b = b[:cap(b)]
	for i := range b {
		b[i] = ^b[i]
	}
}

// spoilHeaders writes into headers and into the room behind their end.
func spoilHeaders(headers []api.Header) {
	headers = headers[:cap(headers)]
	for i := range headers {
		headers[i] = api.Header{Key: "Spoilt", Value: "spoilt"}
	}
}

// R4: what is handed in, and the room behind its end, is not changed: not by a
// call, nor by writing into what it answered.

func TestWhatEncodeIsHandedStays(t *testing.T) {
	r := rand.New(rand.NewSource(13))
	whole, all := someBytes(r, 300), someHeaders(r, 20)
	was, wasAll := bytes.Clone(whole), slices.Clone(all)
	for n := range 300 {
		for _, kind := range []string{"MESSAGE", "KEY"} {
			Encode(kind, all[:n%20], whole[:n], n%2 == 0)
		}
		if !bytes.Equal(whole, was) || !slices.Equal(all, wasAll) {
			t.Fatalf("%d bytes: changed", n)
		}
	}
}

func TestWhatDecodeIsHandedStays(t *testing.T) {
	r := rand.New(rand.NewSource(14))
	for n := range 200 {
		headers, b := someHeaders(r, n%11), someBytes(r, n)
		s := strings.ReplaceAll(plainly("MESSAGE", headers, b, n%2 == 0), "\n", " \t\r\n")
		handed := append([]byte(s), "room behind the end"...)
		was := bytes.Clone(handed)
		_, h, got, e := Decode(handed[:len(s)])
		if e != api.OK || !bytes.Equal(handed, was) {
			t.Fatalf("%d bytes: changed, or %d", n, e)
		}
		spoil(got)
		spoilHeaders(h)
		if !bytes.Equal(handed, was) {
			t.Fatalf("%d bytes: changed by writing into what was told", n)
		}
		mustRead(t, s, "MESSAGE", headers, b)
		Decode(handed[:len(s)-30])
		Decode(handed)
		if !bytes.Equal(handed, was) {
			t.Fatalf("%d bytes: changed beside an error", n)
		}
	}
}

// R4: what was handed in is not kept.

func TestWhatIsHandedInIsNotKept(t *testing.T) {
	r := rand.New(rand.NewSource(15))
	for n := range 200 {
		headers, b := someHeaders(r, n%11), someBytes(r, n)
		handed, handedHeaders := bytes.Clone(b), slices.Clone(headers)
		s := mustEncode(t, "MESSAGE", handedHeaders, handed, true)
		spoil(handed)
		spoilHeaders(handedHeaders)
		if want := plainly("MESSAGE", headers, b, true); s != want {
			t.Errorf("%d bytes: %.300q; want %.300q", n, s, want)
		}
		text := []byte(s)
		kind, h, got, e := Decode(text)
		spoil(text)
		if e != api.OK || kind != "MESSAGE" || !slices.Equal(h, headers) || !bytes.Equal(got, b) {
			t.Errorf("%d bytes: %q, %q, %.80q, %d; want %q, %.80q", n, kind, h, got, e, headers, b)
		}
	}
}

// The room behind the end is not read.
func TestRoomBehindTheEndIsNotRead(t *testing.T) {
	whole := plainly("MESSAGE", twoHeaders, []byte("some bytes, and more of them"), true) + plainly("SIGNATURE", nil, nil, false)
	for n := range len(whole) {
		for _, behind := range []string{"", whole[n:], "\n\n\n", " x", "-----END PGP MESSAGE-----\n"} {
			other := []byte(whole[:n] + behind)
			kind, headers, b, e := Decode(other[:n:len(other)])
			wantKind, wantHeaders, want, wantError := plainlyRead(whole[:n])
			if e != wantError || kind != wantKind || !slices.Equal(headers, wantHeaders) || !bytes.Equal(b, want) {
				t.Errorf("Decode(%q) ahead of %q: %q, %q, %q, %d; want %d", whole[:n], behind, kind, headers, b, e, wantError)
			}
		}
		room := []byte(whole)
		want := plainly("SIGNATURE", twoHeaders[:1], room[:n], true)
		for i := n; i < len(room); i++ {
			room[i] = ^room[i]
		}
		if s, e := Encode("SIGNATURE", twoHeaders[:1], room[:n], true); e != api.OK || s != want {
			t.Errorf("Encode of %d bytes: %.300q, %d; want %.300q", n, s, e, want)
		}
	}
}

// Two answers share no memory, the room behind their ends neither.
func TestAnswersShareNoMemory(t *testing.T) {
	for n := range 100 {
		b := someBytes(rand.New(rand.NewSource(int64(n))), n)
		s := []byte(plainly("MESSAGE", twoHeaders, b, true))
		_, h1, b1, _ := Decode(s)
		_, h2, b2, _ := Decode(s)
		spoil(b1)
		spoilHeaders(h1)
		_, _ = append(b1, "more"...), append(h1, twoHeaders...)
		if !bytes.Equal(b2, b) || !slices.Equal(h2, twoHeaders) {
			t.Errorf("%d bytes: %q, %q; want %q, %q", n, h2, b2, twoHeaders, b)
		}
	}
}

// R5: the same call answers the same, whatever was called ahead of it.

func TestTheSameAgain(t *testing.T) {
	r := rand.New(rand.NewSource(16))
	type call struct {
		headers []api.Header
		b       []byte
		sum     bool
	}
	var all []call
	for n := range 100 {
		all = append(all, call{someHeaders(r, n%13), someBytes(r, 7*n), n%2 == 0})
	}
	for range 3 {
		for _, i := range r.Perm(len(all)) {
			x := all[i]
			if len(x.headers) > 10 {
				mustNotLay(t, api.ErrLimit, "MESSAGE", x.headers, x.b)
				mustRefuse(t, plainly("MESSAGE", x.headers, x.b, x.sum), api.ErrLimit)
				continue
			}
			mustLay(t, "MESSAGE", x.headers, x.b, x.sum)
			mustRead(t, plainly("MESSAGE", x.headers, x.b, x.sum), "MESSAGE", x.headers, x.b)
		}
	}
}
