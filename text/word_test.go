package text

import (
	"strings"
	"testing"
	"unicode/utf8"
)

// mustWord tells if s is a word, or none, and should not be.
func mustWord(t *testing.T, s string, want bool) {
	t.Helper()
	if got := IsWord(s); got != want {
		t.Errorf("IsWord(%.80q), %d bytes: %v; want %v", s, len(s), got, want)
	}
}

// P15.1, N2: IsWord.

func TestWords(t *testing.T) {
	for _, s := range []string{"a", "!", "~", "0", "-", "a-b", "Comment", "Version:", "SHA256", "\"quoted\"", "a\\b", "*", "=AQI="} {
		mustWord(t, s, true)
	}
	for _, s := range []string{"a b", " a", "a ", " ", "\t", "a\tb", "a\n", "\r\n", "a\r\nb", "\x00", "a\x00", "\x7f", "a\x7fb"} {
		mustWord(t, s, false)
	}
}

func TestHowLongAWordIs(t *testing.T) {
	for n := range 200 {
		for _, letter := range []string{"a", "!", "~"} {
			mustWord(t, strings.Repeat(letter, n), n >= 1 && n <= 60)
		}
	}
	mustWord(t, strings.Repeat("a", 256+1), false)
	mustWord(t, strings.Repeat("a", 65536+60), false)
}

// Every byte, alone and at each place of a word.
func TestBytesOfWords(t *testing.T) {
	for c := range 256 {
		one, want := string([]byte{byte(c)}), c >= 33 && c <= 126
		mustWord(t, one, want)
		for _, n := range []int{1, 2, 58, 59} {
			for at := range n + 1 {
				mustWord(t, strings.Repeat("a", at)+one+strings.Repeat("b", n-at), want)
			}
		}
		mustWord(t, strings.Repeat("a", 60)+one, false)
	}
}

// Runes of several bytes have none of 33 to 126, whatever their number is, and
// what is left of it, if its upper bits are dropped.
func TestRunesOfSeveralBytes(t *testing.T) {
	for _, r := range []rune{0x80, 0xa0, 0xa1, 0xe9, 0xff, 0x100, 0x121, 0x141, 0x17e, 0x2028, 0x3000, 0xff21, 0xff5e, utf8.RuneError, 0x10041, 0x1f600, utf8.MaxRune} {
		s := string(r)
		mustWord(t, s, false)
		mustWord(t, s+"a", false)
		mustWord(t, "a"+s, false)
		mustWord(t, "a"+s+"a", false)
		mustWord(t, strings.Repeat(s, 60), false)
		mustWord(t, strings.Repeat("a", 60-len(s))+s, false)
	}
}

func TestBytesThatAreNoTextOfRunes(t *testing.T) {
	for _, s := range []string{"\xff", "\x80", "\xc3", "\xc3(", "(\xc3", "\xe2\x82", "\xc1\x81", "\xe0\x81\x81", "\xed\xa0\x80", "\xf4\x90\x80\x80", "\xf8\x88\x80\x80\x80", "a\xbf", "\xffa"} {
		if utf8.ValidString(s) {
			t.Fatalf("%q is a text of runes", s)
		}
		mustWord(t, s, false)
		mustWord(t, s+"a", false)
		mustWord(t, "a"+s, false)
	}
}
