package text

import (
	"bytes"
	"math/rand"
	"slices"
	"strings"
	"testing"
)

// spoil writes into a list's bytes and into the room behind its end.
func spoil(b []byte) {
	b = b[:cap(b)]
	for i := range b {
		b[i] = ^b[i]
	}
}

// R4: what is handed in, and the room behind its end, is not changed: not by a
// call, nor by writing into what it answered.

func TestWhatIsHandedInStays(t *testing.T) {
	r := rand.New(rand.NewSource(4))
	whole := []byte(someText(r, 200))
	was := bytes.Clone(whole)
	for from := 0; from < len(whole); from += 7 {
		for end := from; end <= len(whole); end++ {
			for _, call := range calls {
				spoil(call.of(whole[from:end]))
			}
			for _, line := range Lines(whole[from:end]) {
				spoil(line)
			}
			if !bytes.Equal(whole, was) {
				t.Fatalf("%d to %d: changed", from, end)
			}
		}
	}
}

// A text that is so already is answered in new memory too.
func TestAnswerOfWhatIsSoIsNew(t *testing.T) {
	for _, s := range []string{"a", "a\r\nb", "a\r\n\r\nb\r\n", "\r\n"} {
		for _, call := range calls {
			b := append(make([]byte, 0, 50), s...)
			got := call.of(b)
			if string(got) == s {
				spoil(b)
				mustMake(t, call.name, s, got, s)
			}
		}
	}
	b := []byte("one")
	line := Lines(b)[0]
	spoil(b)
	mustMake(t, "Lines", "one", line, "one")
}

// The room behind the end is not read.
func TestRoomBehindTheEndIsNotRead(t *testing.T) {
	whole := []byte("a \r\n b\t \n\r\r\n \t")
	for n := range len(whole) {
		for _, behind := range []string{"\n", "\r\n", " ", "\t", "b", "\n\n\n"} {
			other := append(bytes.Clone(whole[:n]), behind...)
			s := string(whole[:n])
			for _, call := range calls {
				mustMake(t, call.name, s, call.of(other[:n]), string(call.of([]byte(s))))
			}
			mustTell(t, "Lines", s, texts(Lines(other[:n])), cut(s))
		}
	}
}

// Lines that were told share no memory, the room behind their ends neither.
func TestLinesShareNoMemory(t *testing.T) {
	r := rand.New(rand.NewSource(5))
	for n := range 80 {
		s := someText(r, n)
		b := []byte(s)
		lines, want := Lines(b), cut(s)
		for i := range lines {
			spoil(lines[i])
			want[i] = string(turned([]byte(want[i])))
			mustTell(t, "spoilt Lines", s, texts(lines), want)
		}
		if string(b) != s {
			t.Errorf("%q: changed", s)
		}
		for i, line := range lines {
			lines[i] = append(line, "more than was there"...)
			want[i] += "more than was there"
		}
		mustTell(t, "longer Lines", s, texts(lines), want)
		mustTell(t, "Lines again", s, texts(Lines(b)), cut(s))
	}
}

// R4: what was handed in is not kept.

func TestWhatIsHandedInIsNotKept(t *testing.T) {
	r := rand.New(rand.NewSource(6))
	for n := range 80 {
		s := someText(r, n)
		b := []byte(s)
		lines, was := Lines(b), cut(s)
		var got [][]byte
		var want []string
		for _, call := range calls {
			got = append(got, call.of(b))
			want = append(want, string(got[len(got)-1]))
		}
		spoil(b)
		mustTell(t, "Lines", s, texts(lines), was)
		mustTell(t, "calls", s, texts(got), want)
	}
}

// R5: the same call answers the same, whatever was called ahead of it.

func TestTheSameAgain(t *testing.T) {
	r := rand.New(rand.NewSource(7))
	var all []string
	var told [][]string
	tell := func(s string) []string {
		out := texts(Lines([]byte(s)))
		for _, call := range calls {
			out = append(out, string(call.of([]byte(s))))
		}
		if IsWord(s) {
			out = append(out, "a word")
		}
		return out
	}
	for n := range 100 {
		s := someText(r, n%30)
		all, told = append(all, s), append(told, tell(s))
	}
	for _, i := range r.Perm(len(all)) {
		if again := tell(all[i]); !slices.Equal(again, told[i]) {
			t.Errorf("%q again: %q; want %q", all[i], again, told[i])
		}
	}
}

// Who goes through the lines may stop at any of them, and go through them again
// from the first one on.
func TestStoppingAtALine(t *testing.T) {
	lines := []string{"a ", "b", "", "c\t", ""}
	each := linesOf([]byte(strings.Join(lines, "\n")))
	for stop := range lines {
		for i, through := range []func(func([]byte) bool){each, eachTrimmed(each)} {
			var got, want []string
			for line := range through {
				got = append(got, string(line))
				if len(got) > stop {
					break
				}
			}
			want = append(want, lines[:stop+1]...)
			if i == 1 {
				want = withoutBlanks(want)
			}
			mustTell(t, "going through", "five lines", got, want)
		}
	}
}
