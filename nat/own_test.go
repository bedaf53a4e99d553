package nat

import (
	"bytes"
	"slices"
	"testing"

	"affiant/api"
)

// A call that is handed two numbers, and the lists that it answers.
type call struct {
	name string
	of   func(a, b api.Nat) []api.Nat
}

// bytesAsWords lays bytes into words, so that lists of both are held alike.
func bytesAsWords(b []byte) api.Nat {
	out := make(api.Nat, len(b))
	for i, x := range b {
		out[i] = uint32(x)
	}
	return out
}

// calls answers all calls that are handed numbers, those with numbers as their
// answer ahead.
func calls() []call {
	one := func(a api.Nat, _ api.Errno) []api.Nat { return []api.Nat{a} }
	count := func(n int) []api.Nat { return []api.Nat{{uint32(n)}} }
	return []call{
		{"Add", func(a, b api.Nat) []api.Nat { return one(Add(a, b), 0) }},
		{"Sub", func(a, b api.Nat) []api.Nat { return one(Sub(a, b)) }},
		{"Mul", func(a, b api.Nat) []api.Nat { return one(Mul(a, b), 0) }},
		{"Div", func(a, b api.Nat) []api.Nat { q, left, _ := Div(a, b); return []api.Nat{q, left} }},
		{"Shl by 0", func(a, b api.Nat) []api.Nat { return one(Shl(a, 0)) }},
		{"Shl by 32", func(a, b api.Nat) []api.Nat { return one(Shl(a, 32)) }},
		{"Shl by 45", func(a, b api.Nat) []api.Nat { return one(Shl(a, 45)) }},
		{"Shr by -1", func(a, b api.Nat) []api.Nat { return one(Shr(a, -1), 0) }},
		{"Shr by 0", func(a, b api.Nat) []api.Nat { return one(Shr(a, 0), 0) }},
		{"Shr by 32", func(a, b api.Nat) []api.Nat { return one(Shr(a, 32), 0) }},
		{"Shr by 45", func(a, b api.Nat) []api.Nat { return one(Shr(a, 45), 0) }},
		{"Bytes", func(a, b api.Nat) []api.Nat { return one(bytesAsWords(Bytes(a)), 0) }},
		{"Fill", func(a, b api.Nat) []api.Nat { c, _ := Fill(a, 30); return one(bytesAsWords(c), 0) }},
		{"Cmp", func(a, b api.Nat) []api.Nat { return count(Cmp(a, b)) }},
		{"Bits", func(a, b api.Nat) []api.Nat { return count(Bits(a)) }},
		{"Bit", func(a, b api.Nat) []api.Nat { return count(Bit(a, 33)) }},
	}
}

// copies answers lists with the same words in memory of their own.
func copies(lists []api.Nat) []api.Nat {
	var out []api.Nat
	for _, a := range lists {
		out = append(out, slices.Clone(a))
	}
	return out
}

// same tells if lists have the same words.
func same(a, b []api.Nat) bool {
	return slices.EqualFunc(a, b, func(x, y api.Nat) bool { return slices.Equal(x, y) })
}

// scribble writes over all of a list, the room behind its end too.
func scribble(a api.Nat) {
	a = a[:cap(a)]
	for i := range a {
		a[i] = ^a[i]
	}
}

// pairs goes through pairs of numbers with noughts at their end and room
// behind, one in the same memory as the other as well.
func pairs(check func(a, b api.Nat)) {
	ends := []api.Nat{nil, {0}, {5}, {most}, {0, 1}, {7, 0, 3}, full(4, most), {1, 2, 3, 4, 5, 6}}
	for _, a := range ends {
		for _, b := range ends {
			for n := range 3 {
				check(laid(a, n), laid(b, 2-n))
			}
		}
		both := laid(a, 2)
		check(both, both)
		check(both, both[:len(both)-1])
		check(both, both[1:])
		check(both[1:], both)
	}
}

// R4: what is handed in is not changed, nor what lies behind its end.

func TestWhatIsHandedInStays(t *testing.T) {
	for _, c := range calls() {
		pairs(func(a, b api.Nat) {
			roomA, roomB := a[:cap(a)], b[:cap(b)]
			wasA, wasB := slices.Clone(roomA), slices.Clone(roomB)
			c.of(a, b)
			if !slices.Equal(roomA, wasA) || !slices.Equal(roomB, wasB) {
				t.Errorf("%s: %x, %x; were %x, %x", c.name, roomA, roomB, wasA, wasB)
			}
		})
	}
}

func TestBytesThatAreReadStay(t *testing.T) {
	room := []byte{0, 0, 1, 2, 3, 4, 5, 6, 7, 8, 9}
	for i := range 8 {
		was := bytes.Clone(room)
		a := Read(room[:i])
		told := slices.Clone(a)
		if !bytes.Equal(room, was) {
			t.Errorf("%v; was %v", room, was)
		}
		for j := range room {
			room[j] ^= 255
		}
		if !slices.Equal(a, told) {
			t.Errorf("%x; was %x", a, told)
		}
		scribble(a)
		for j := range room {
			room[j] ^= 255
		}
		if !bytes.Equal(room, was) {
			t.Errorf("%v; was %v", room, was)
		}
	}
}

// R4: what lies behind the end is not read.

func TestRoomBehindTheEndIsNotRead(t *testing.T) {
	for _, c := range calls() {
		pairs(func(a, b api.Nat) {
			if got, want := c.of(a, b), c.of(slices.Clip(slices.Clone(a)), slices.Clip(slices.Clone(b))); !same(got, want) {
				t.Errorf("%s(%x, %x): %x; want %x", c.name, a, b, got, want)
			}
		})
	}
}

// R4: what is handed in is not kept, and no answer shares memory with it.

func TestAnswersAreNewMemory(t *testing.T) {
	for _, c := range calls() {
		pairs(func(a, b api.Nat) {
			first := c.of(a, b)
			told := copies(first)
			second := c.of(a, b)
			roomA, roomB := slices.Clone(a[:cap(a)]), slices.Clone(b[:cap(b)])
			for _, list := range second {
				scribble(list)
			}
			if !slices.Equal(a[:cap(a)], roomA) || !slices.Equal(b[:cap(b)], roomB) {
				t.Errorf("%s: an answer shares memory with what was handed in", c.name)
			}
			if !same(first, told) || !same(c.of(a, b), told) {
				t.Errorf("%s: an answer shares memory with another one", c.name)
			}
			scribble(a)
			scribble(b)
			if !same(first, told) {
				t.Errorf("%s: an answer changes with what was handed in", c.name)
			}
		})
	}
}

func TestBytesAreNewMemory(t *testing.T) {
	a := laid(api.Nat{1, 2, 3}, 1)
	for _, tell := range []func() []byte{
		func() []byte { return Bytes(a) },
		func() []byte { b, _ := Fill(a, 9); return b },
		func() []byte { b, _ := Fill(a, 14); return b },
	} {
		first, second := tell(), tell()
		told := bytes.Clone(first)
		clear(second[:cap(second)])
		if !bytes.Equal(first, told) || !bytes.Equal(tell(), told) || value(a).Cmp(value(api.Nat{1, 2, 3})) != 0 {
			t.Errorf("%v; was %v", first, told)
		}
	}
}

// R4: two lists of one answer share nothing, and none has room behind its end.

func TestTwoListsOfOneAnswer(t *testing.T) {
	pairs(func(a, b api.Nat) {
		q, left, _ := Div(a, b)
		was := slices.Clone(left)
		scribble(q)
		if !slices.Equal(left, was) {
			t.Errorf("Div(%x, %x): what is left changes with the quotient", a, b)
		}
		was = slices.Clone(q)
		scribble(left)
		if !slices.Equal(q, was) {
			t.Errorf("Div(%x, %x): the quotient changes with what is left", a, b)
		}
	})
}

func TestAnswersEndWhereTheirRoomDoes(t *testing.T) {
	for _, c := range calls() {
		pairs(func(a, b api.Nat) {
			for _, list := range c.of(a, b) {
				if cap(list) != len(list) {
					t.Errorf("%s(%x, %x): %d words, room for %d", c.name, a, b, len(list), cap(list))
				}
			}
		})
	}
	for _, n := range []uint64{0, 1, 1 << 32} {
		if a := From(n); cap(a) != len(a) {
			t.Errorf("From(%d): room for %d", n, cap(a))
		}
		scribble(From(n))
		if got := value(From(n)).Uint64(); got != n {
			t.Errorf("From(%d): %d", n, got)
		}
	}
}
