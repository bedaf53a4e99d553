package text

import (
	"bytes"
	"math/rand"
	"regexp"
	"slices"
	"strings"
	"testing"
)

// anEnd is an end of a line, written another way than the package reads it.
var anEnd = regexp.MustCompile("\r?\n")

// blanksBehind are the blanks and tabs that a text ends with.
var blanksBehind = regexp.MustCompile("[ \t]*$")

// cut answers the lines of a text, cut at its ends.
func cut(s string) []string { return anEnd.Split(s, -1) }

// withoutBlanks answers the lines, each of them trimmed.
func withoutBlanks(lines []string) []string {
	var out []string
	for _, line := range lines {
		out = append(out, blanksBehind.ReplaceAllString(line, ""))
	}
	return out
}

// texts answers lists of bytes as texts.
func texts(lists [][]byte) []string {
	var out []string
	for _, b := range lists {
		out = append(out, string(b))
	}
	return out
}

// mustBe tells if a text's lines, or what is made of them, are others.
func mustBe(t *testing.T, s string, lines ...string) {
	t.Helper()
	short := withoutBlanks(lines)
	mustTell(t, "Lines", s, texts(Lines([]byte(s))), lines)
	mustMake(t, "Canon", s, Canon([]byte(s)), strings.Join(lines, "\r\n"))
	mustMake(t, "Plain", s, Plain([]byte(s)), strings.Join(lines, "\n"))
	mustMake(t, "Signed", s, Signed([]byte(s)), strings.Join(short, "\r\n"))
}

// mustTell tells if the lines that were told are others.
func mustTell(t *testing.T, call, s string, got, want []string) {
	t.Helper()
	if !slices.Equal(got, want) {
		t.Errorf("%s(%.80q): %.80q; want %.80q", call, s, got, want)
	}
}

// mustMake tells if what was made of a text is another text.
func mustMake(t *testing.T, call, s string, got []byte, want string) {
	t.Helper()
	if string(got) != want {
		t.Errorf("%s(%.80q): %.80q; want %.80q", call, s, got, want)
	}
}

// calls are those that answer a text of a text.
var calls = []struct {
	name string
	of   func([]byte) []byte
}{{"Trim", Trim}, {"Canon", Canon}, {"Plain", Plain}, {"Signed", Signed}}

// allOf goes through every text of at most so many letters.
func allOf(letters string, most int, each func(s string)) {
	each("")
	if most == 0 {
		return
	}
	for i := range len(letters) {
		allOf(letters, most-1, func(s string) {
			each(letters[i:i+1] + s)
		})
	}
}

// pieces are what the texts of chance are made of: ends, parts of ends, blanks,
// and bytes that look like them if their top bits are dropped.
var pieces = []string{"\n", "\r\n", "\r", " ", "\t", "a", "word", "\x00", "\v", "\f", "\xa0", "\x8a", "\x8d", "\x89", "é", "\u2028", "\u0085", "\u00a0", "\xff"}

// someText answers a text of so many pieces, always the same of one source.
func someText(r *rand.Rand, n int) string {
	var out strings.Builder
	for range n {
		out.WriteString(pieces[r.Intn(len(pieces))])
	}
	return out.String()
}

// someBytes answers so many bytes, always the same of one source.
func someBytes(r *rand.Rand, n int) []byte {
	b := make([]byte, n)
	for i := range b {
		b[i] = byte(r.Intn(256))
	}
	return b
}

// turned answers the bytes, each with all its bits turned.
func turned(b []byte) []byte {
	out := bytes.Clone(b)
	for i := range out {
		out[i] = ^out[i]
	}
	return out
}
