package rsa

import (
	"bytes"
	"math/rand"
	"slices"
	"testing"

	"affiant/api"
)

// args is what calls are handed, each with room behind its end.
type args struct {
	n, e, d     api.Nat
	number, k   int
	digest, sig []byte
}

// behind answers the same bytes in a list behind whose end there is room, with
// bytes in it that are not 0.
func behind(b []byte) []byte {
	room := append(bytes.Clone(b), bytes.Repeat([]byte{0xa5}, 40)...)
	return room[:len(b)]
}

// someArgs answers what makes an answer, and what makes each error.
func someArgs(t *testing.T) []args {
	var out []args
	for _, k := range []pair{small()[0], small()[3], roomy()[0]} {
		for _, a := range algs() {
			if k.n.BitLen() < 8*a.room {
				continue
			}
			digest, sig := signed(t, k, a, "own")
			good := args{laid(words(k.n), 2), laid(words(k.e), 1), laid(words(k.d), 0), a.number, 130, behind(digest), behind(sig)}
			unknown, longer, short, other := good, good, good, good
			unknown.number = 3
			longer.digest = behind(append(digest, 1))
			short.n, short.k = laid(api.Nat{5}, 1), 5
			other.d, other.sig = laid(api.Nat{5}, 1), behind(sig[1:])
			out = append(out, good, unknown, longer, short, other)
		}
	}
	return append(out, args{}, args{number: 8, n: laid(nil, 3)})
}

// A call, and the bytes and the number that it answers.
type call struct {
	name string
	of   func(x args) ([]byte, int)
}

func calls() []call {
	told := func(b []byte, err api.Errno) ([]byte, int) { return b, int(err) }
	return []call{
		{"Prefix", func(x args) ([]byte, int) { return told(Prefix(x.number)) }},
		{"Message", func(x args) ([]byte, int) { return told(Message(x.number, x.digest, x.k)) }},
		{"Sign", func(x args) ([]byte, int) { return told(Sign(x.n, x.e, x.d, x.number, x.digest)) }},
		{"Check", func(x args) ([]byte, int) { return nil, int(Check(x.n, x.e)) }},
		{"Verify", func(x args) ([]byte, int) {
			if Verify(x.n, x.e, x.number, x.digest, x.sig) {
				return nil, 1
			}
			return nil, 0
		}},
	}
}

// rooms answers all the memory of what is handed in.
func (x args) rooms() ([]api.Nat, [][]byte) {
	return []api.Nat{x.n[:cap(x.n)], x.e[:cap(x.e)], x.d[:cap(x.d)]},
		[][]byte{x.digest[:cap(x.digest)], x.sig[:cap(x.sig)]}
}

// copied answers the same in other memory, its room too.
func (x args) copied() args {
	ofNat := func(a api.Nat) api.Nat { return slices.Clip(slices.Clone(a[:cap(a)]))[:len(a)] }
	ofBytes := func(b []byte) []byte { return slices.Clip(slices.Clone(b[:cap(b)]))[:len(b)] }
	x.n, x.e, x.d = ofNat(x.n), ofNat(x.e), ofNat(x.d)
	x.digest, x.sig = ofBytes(x.digest), ofBytes(x.sig)
	return x
}

// bare answers the same without room behind the ends.
func (x args) bare() args {
	x = x.copied()
	x.n, x.e, x.d = slices.Clip(x.n), slices.Clip(x.e), slices.Clip(x.d)
	x.digest, x.sig = slices.Clip(x.digest), slices.Clip(x.sig)
	return x
}

// isAs tells if all memory is the same, the room behind the ends too.
func (x args) isAs(y args) bool {
	a, b := x.rooms()
	c, d := y.rooms()
	return slices.EqualFunc(a, c, slices.Equal) && slices.EqualFunc(b, d, bytes.Equal)
}

// spoil changes all memory of what was handed in.
func (x args) spoil() {
	numbers, lists := x.rooms()
	for _, a := range numbers {
		for i := range a {
			a[i] = ^a[i]
		}
	}
	for _, b := range lists {
		spoilBytes(b)
	}
}

// spoilBytes changes bytes, and the room behind their end.
func spoilBytes(b []byte) {
	b = b[:cap(b)]
	for i := range b {
		b[i] = ^b[i]
	}
}

// R4: what is handed in, and the room behind its end, is not changed.

func TestWhatIsHandedInStays(t *testing.T) {
	for _, c := range calls() {
		for i, x := range someArgs(t) {
			was := x.copied()
			c.of(x)
			if !x.isAs(was) {
				t.Errorf("%s %d: what was handed in is changed", c.name, i)
			}
		}
	}
}

// R4: the room behind the end is not read.

func TestRoomBehindTheEndIsNotRead(t *testing.T) {
	for _, c := range calls() {
		for i, x := range someArgs(t) {
			got, n := c.of(x)
			want, m := c.of(x.bare())
			if !bytes.Equal(got, want) || n != m {
				t.Errorf("%s %d: %x, %d; want %x, %d", c.name, i, got, n, want, m)
			}
		}
	}
}

// R4: what is handed in is not kept, and an answer is new memory, its spare room
// too: it shares none with what was handed in or with another one.

func TestAnswersAreNewMemory(t *testing.T) {
	for _, c := range calls() {
		for i, x := range someArgs(t) {
			was := x.copied()
			first, n := c.of(x)
			told := bytes.Clone(first)
			second, _ := c.of(x)
			spoilBytes(second)
			if !x.isAs(was) {
				t.Errorf("%s %d: an answer shares memory with what was handed in", c.name, i)
			}
			third, m := c.of(x)
			if !bytes.Equal(first, told) || !bytes.Equal(third, told) || n != m {
				t.Errorf("%s %d: an answer shares memory with another one: %x, %x; was %x", c.name, i, first, third, told)
			}
			x.spoil()
			if !bytes.Equal(first, told) {
				t.Errorf("%s %d: an answer changes with what was handed in", c.name, i)
			}
			if again, m := c.of(was); !bytes.Equal(again, told) || n != m {
				t.Errorf("%s %d: what was handed in is kept: %x, %d; was %x, %d", c.name, i, again, m, told, n)
			}
		}
	}
}

// What is handed in may lie in the same memory.
func TestArgumentsThatShareMemory(t *testing.T) {
	k, a := roomy()[0], algOf(api.SHA256)
	digest, sig := signed(t, k, a, "shared")
	both := slices.Concat(digest, sig)
	if !Verify(words(k.n), words(k.e), a.number, both[:32], both[32:]) {
		t.Error("a digest with the signature behind it: false")
	}
	all := slices.Concat(words(k.n), words(k.e), words(k.d))
	n, e := len(words(k.n)), len(words(k.e))
	got, err := Sign(all[:n], all[n:n+e], all[n+e:], a.number, both[:32])
	if !bytes.Equal(got, sig) || err != api.OK {
		t.Errorf("numbers one behind the other: %x, %d; want %x", got, err, sig)
	}
	m := words(k.n)
	if Verify(m, m, a.number, both[:32], both[:32]) || Check(m, m) != api.ErrWeak {
		t.Error("one number for two")
	}
}

// R5: no answer hangs on what other calls were made ahead.

func TestCallsInAnyOrder(t *testing.T) {
	r := rand.New(rand.NewSource(104))
	type asked struct {
		c    call
		x    args
		told []byte
		n    int
	}
	var all []asked
	for _, c := range calls() {
		for _, x := range someArgs(t) {
			told, n := c.of(x)
			all = append(all, asked{c, x, told, n})
		}
	}
	for _, i := range r.Perm(len(all)) {
		a := all[i]
		if got, n := a.c.of(a.x); !bytes.Equal(got, a.told) || n != a.n {
			t.Errorf("%s: %x, %d; was %x, %d", a.c.name, got, n, a.told, a.n)
		}
	}
}

// R1: no call panics, whatever it is handed.

func TestNoCallPanics(t *testing.T) {
	numbers := []api.Nat{nil, {}, {0}, {1}, {2}, {0, 0}, {most}, {0, 1}, {most, most}, words(power(500, 0)), words(power(512, -1)), laid(nil, 4)}
	lists := [][]byte{nil, {}, {0}, make([]byte, 20), make([]byte, 32), bytes.Repeat([]byte{255}, 64), make([]byte, 8193)}
	for _, n := range numbers {
		for _, e := range numbers[:9] {
			for _, number := range []int{-1, 0, 2, 8, 10} {
				for _, b := range lists {
					for _, c := range calls() {
						c.of(args{n, e, e, number, len(b), b, b})
					}
				}
			}
		}
	}
}
