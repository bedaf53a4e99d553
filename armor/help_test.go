package armor

import (
	"bytes"
	"encoding/base64"
	"math/rand"
	"regexp"
	"slices"
	"strings"
	"testing"

	"affiant/api"
)

// kinds are all the kinds that there are.
var kinds = []string{"MESSAGE", "PUBLIC KEY BLOCK", "SIGNATURE"}

// bools are both of them.
var bools = []bool{false, true}

// twoHeaders are headers that may be.
var twoHeaders = []api.Header{{Key: "Version", Value: "affiant"}, {Key: "Comment", Value: "a: b"}}

// lettersOf answers bytes as letters, by another way than the package's.
func lettersOf(b []byte) string { return base64.StdEncoding.EncodeToString(b) }

// sumLine answers the line of bytes' sum, by another way than the package's: the
// bits one by one, each held against the sum's highest.
func sumLine(b []byte) string {
	sum := uint32(0xb704ce)
	for i := range 8 * len(b) {
		bit := uint32(b[i/8]) >> (7 - i%8) & 1
		top := sum>>23 ^ bit
		sum = sum << 1 & 0xffffff
		if top == 1 {
			sum ^= 0x864cfb
		}
	}
	return "=" + lettersOf([]byte{byte(sum >> 16), byte(sum >> 8), byte(sum)})
}

// piecesOf answers a text in pieces of so many bytes, the last one maybe of fewer.
func piecesOf(s string, n int) []string {
	var out []string
	for piece := range slices.Chunk([]byte(s), n) {
		out = append(out, string(piece))
	}
	return out
}

// linesOf answers an armor's lines, with the letters in lines of so many.
func linesOf(kind string, headers []api.Header, b []byte, sum bool, letters int) []string {
	out := []string{"-----BEGIN PGP " + kind + "-----"}
	for _, h := range headers {
		out = append(out, h.Key+": "+h.Value)
	}
	out = append(out, "")
	out = append(out, piecesOf(lettersOf(b), letters)...)
	if sum {
		out = append(out, sumLine(b))
	}
	return append(out, "-----END PGP "+kind+"-----")
}

// plainly answers an armor, by a plain way of writing it.
func plainly(kind string, headers []api.Header, b []byte, sum bool) string {
	return laid(linesOf(kind, headers, b, sum, 64)...)
}

// laid answers a text of lines, each with the byte 10 behind it.
func laid(lines ...string) string { return strings.Join(lines, "\n") + "\n" }

// around answers a text of the lines that are laid between an armor's first line
// and its last one.
func around(lines ...string) string {
	return laid("-----BEGIN PGP MESSAGE-----", laid(lines...)+"-----END PGP MESSAGE-----")
}

// mustLay tells if an armor is another one than what is written plainly.
func mustLay(t *testing.T, kind string, headers []api.Header, b []byte, sum bool) {
	t.Helper()
	want := plainly(kind, headers, b, sum)
	if s, e := Encode(kind, headers, b, sum); e != api.OK || s != want {
		t.Errorf("Encode(%q, %q, %.80q, %t): %.300q, %d; want %.300q", kind, headers, b, sum, s, e, want)
	}
}

// mustNotLay tells if Encode does not tell that error, or something beside it.
func mustNotLay(t *testing.T, want api.Errno, kind string, headers []api.Header, b []byte) {
	t.Helper()
	for _, sum := range bools {
		if s, e := Encode(kind, headers, b, sum); e != want || s != "" {
			t.Errorf("Encode(%q, %q, %d bytes, %t): %.80q, %d; want %d", kind, headers, len(b), sum, s, e, want)
		}
	}
}

// mustRead tells if a text is not read as an armor of that kind, with those
// headers and those bytes.
func mustRead(t *testing.T, s, kind string, headers []api.Header, b []byte) {
	t.Helper()
	k, h, got, e := Decode([]byte(s))
	if e != api.OK || k != kind || !slices.Equal(h, headers) || !bytes.Equal(got, b) {
		t.Errorf("Decode(%.300q): %q, %q, %.80q, %d; want %q, %q, %.80q", s, k, h, got, e, kind, headers, b)
	}
}

// mustRefuse tells if Decode does not tell that error, or something beside it.
func mustRefuse(t *testing.T, s string, want api.Errno) {
	t.Helper()
	if kind, headers, b, e := Decode([]byte(s)); e != want || kind != "" || len(headers) != 0 || len(b) != 0 {
		t.Errorf("Decode(%.300q): %q, %q, %.80q, %d; want %d", s, kind, headers, b, e, want)
	}
}

// The plain way of reading: a text by patterns instead of by lines.
var (
	ends     = regexp.MustCompile(`[ \t]*\r?\n`)
	lastEnd  = regexp.MustCompile(`[ \t]*$`)
	first    = regexp.MustCompile(`(?m)^-----BEGIN PGP .*$`)
	ofKind   = regexp.MustCompile(`^-----BEGIN PGP (MESSAGE|PUBLIC KEY BLOCK|SIGNATURE)-----$`)
	behind   = regexp.MustCompile(`^\n((?:[A-Za-z]{1,30}: [!-~](?:[ -~]{0,98}[!-~])?\n)*)\n((?:[^\n]{1,76}\n)*?)((?:=[A-Za-z0-9+/]{4}\n)?)-----END PGP ([A-Z ]+)-----\n+$`)
	aHeader  = regexp.MustCompile(`([A-Za-z]+): (.*)\n`)
	aNewline = regexp.MustCompile(`\n`)
)

// plainlyRead answers what Decode must tell of a text.
func plainlyRead(s string) (string, []api.Header, []byte, api.Errno) {
	if len(s) > 60000 {
		return "", nil, nil, api.ErrLimit
	}
	s = lastEnd.ReplaceAllString(ends.ReplaceAllString(s, "\n"), "")
	at := first.FindStringIndex(s)
	if at == nil || !ofKind.MatchString(s[at[0]:at[1]]) {
		return "", nil, nil, api.ErrArmor
	}
	kind, rest := ofKind.FindStringSubmatch(s[at[0]:at[1]])[1], s[at[1]:]+"\n"
	between, _, ok := strings.Cut(rest, "\n\n")
	if !ok {
		return "", nil, nil, api.ErrArmor
	}
	if strings.Count(between, "\n") > 10 {
		return "", nil, nil, api.ErrLimit
	}
	parts := behind.FindStringSubmatch(rest)
	if parts == nil || parts[4] != kind {
		return "", nil, nil, api.ErrArmor
	}
	b, err := base64.StdEncoding.Strict().DecodeString(aNewline.ReplaceAllString(parts[2], ""))
	if err != nil || strings.Contains(parts[2], "\r") {
		return "", nil, nil, api.ErrArmor
	}
	if parts[3] != "" && parts[3] != sumLine(b)+"\n" {
		return "", nil, nil, api.ErrSum
	}
	var headers []api.Header
	for _, h := range aHeader.FindAllStringSubmatch(parts[1], -1) {
		headers = append(headers, api.Header{Key: h[1], Value: h[2]})
	}
	return kind, headers, b, api.OK
}

// mustReadPlainly tells if Decode does not tell what the plain way tells.
func mustReadPlainly(t *testing.T, s string) api.Errno {
	t.Helper()
	kind, headers, b, e := plainlyRead(s)
	if e == api.OK {
		mustRead(t, s, kind, headers, b)
	} else {
		mustRefuse(t, s, e)
	}
	return e
}

// someBytes answers so many bytes, always the same of one source.
func someBytes(r *rand.Rand, n int) []byte {
	b := make([]byte, n)
	for i := range b {
		b[i] = byte(r.Intn(256))
	}
	return b
}

// someText answers so many of those letters.
func someText(r *rand.Rand, letters string, n int) string {
	b := make([]byte, n)
	for i := range b {
		b[i] = letters[r.Intn(len(letters))]
	}
	return string(b)
}

const (
	keyLetters = "ABCDEFGHIJKLMNOPQRSTUVWXYZabcdefghijklmnopqrstuvwxyz"
	bodyDigits = "0123456789+/"
	marks      = "!\"#$%&'()*,-.:;<=>?@[\\]^_`{|}~"
)

// someHeaders answers so many headers that may be.
func someHeaders(r *rand.Rand, n int) []api.Header {
	var out []api.Header
	for range n {
		value := []byte(someText(r, keyLetters+bodyDigits+marks+"      ", 1+r.Intn(100)))
		for _, i := range []int{0, len(value) - 1} {
			if value[i] == ' ' {
				value[i] = marks[r.Intn(len(marks))]
			}
		}
		out = append(out, api.Header{Key: someText(r, keyLetters, 1+r.Intn(30)), Value: string(value)})
	}
	return out
}

// longest answers as many headers of the greatest length as that.
func longest(n int) []api.Header {
	h := api.Header{Key: strings.Repeat("K", 30), Value: strings.Repeat("v", 100)}
	return slices.Repeat([]api.Header{h}, n)
}
