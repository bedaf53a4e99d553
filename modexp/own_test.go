package modexp

import (
	"slices"
	"testing"

	"affiant/api"
)

// A call that is handed three numbers, or takes as many of them as it needs,
// and the number that it answers.
type call struct {
	name string
	of   func(a, b, m api.Nat) api.Nat
}

// calls answers all calls, those with two numbers in more than one order.
func calls() []call {
	number := func(a api.Nat, _ api.Errno) api.Nat { return a }
	return []call{
		{"Reduce", func(a, _, m api.Nat) api.Nat { return number(Reduce(a, m)) }},
		{"Mul", func(a, b, m api.Nat) api.Nat { return number(Mul(a, b, m)) }},
		{"Exp", func(a, b, m api.Nat) api.Nat { return number(Exp(a, b, m)) }},
		{"Gcd", func(a, b, _ api.Nat) api.Nat { return Gcd(a, b) }},
		{"Gcd, with the modulus", func(a, _, m api.Nat) api.Nat { return Gcd(a, m) }},
		{"Inverse", func(a, _, m api.Nat) api.Nat { return number(Inverse(a, m)) }},
		{"Inverse of the second", func(_, b, m api.Nat) api.Nat { return number(Inverse(b, m)) }},
	}
}

// threes goes through threes of numbers with noughts at their end and room
// behind, some in the same memory as others.
func threes(check func(a, b, m api.Nat)) {
	ends := []api.Nat{nil, {0}, {1}, {5}, {0, 1}, {7, 0, 3}, full(4, most)}
	for _, a := range ends {
		for _, b := range ends {
			for _, m := range ends {
				for n := range 2 {
					check(laid(a, n), laid(b, 2-n), laid(m, n))
				}
			}
			both, other := laid(a, 2), laid(b, 1)
			check(both, both, other)
			check(both, other, both)
			check(other, both, both[:len(both)-1])
			check(both[1:], both, both[:1])
		}
		all := laid(a, 1)
		check(all, all, all)
	}
}

// R4: what is handed in is not changed, nor what lies behind its end.

func TestWhatIsHandedInStays(t *testing.T) {
	for _, c := range calls() {
		threes(func(a, b, m api.Nat) {
			for _, list := range []api.Nat{a, b, m} {
				room := list[:cap(list)]
				was := slices.Clone(room)
				c.of(a, b, m)
				if !slices.Equal(room, was) {
					t.Errorf("%s: %x; was %x", c.name, room, was)
				}
			}
		})
	}
}

// R4: what lies behind the end is not read.

func TestRoomBehindTheEndIsNotRead(t *testing.T) {
	bare := func(a api.Nat) api.Nat { return slices.Clip(slices.Clone(a)) }
	for _, c := range calls() {
		threes(func(a, b, m api.Nat) {
			if got, want := c.of(a, b, m), c.of(bare(a), bare(b), bare(m)); !slices.Equal(got, want) {
				t.Errorf("%s(%x, %x, %x): %x; want %x", c.name, a, b, m, got, want)
			}
		})
	}
}

// R4: what is handed in is not kept, and no answer shares memory with it or
// with another one.

func TestAnswersAreNewMemory(t *testing.T) {
	for _, c := range calls() {
		threes(func(a, b, m api.Nat) {
			first := c.of(a, b, m)
			told := slices.Clone(first)
			second := c.of(a, b, m)
			rooms := []api.Nat{a[:cap(a)], b[:cap(b)], m[:cap(m)]}
			was := []api.Nat{slices.Clone(rooms[0]), slices.Clone(rooms[1]), slices.Clone(rooms[2])}
			scribble(second)
			for i, room := range rooms {
				if !slices.Equal(room, was[i]) {
					t.Errorf("%s: an answer shares memory with what was handed in", c.name)
				}
			}
			if !slices.Equal(first, told) || !slices.Equal(c.of(a, b, m), told) {
				t.Errorf("%s: an answer shares memory with another one", c.name)
			}
			for _, room := range rooms {
				scribble(room)
				if !slices.Equal(first, told) {
					t.Errorf("%s: an answer changes with what was handed in", c.name)
				}
			}
		})
	}
}

// scribble writes over all of a list, the room behind its end too.
func scribble(a api.Nat) {
	a = a[:cap(a)]
	for i := range a {
		a[i] = ^a[i]
	}
}

// R4: no answer has room behind its end that another one could share.

func TestAnswersEndWhereTheirRoomDoes(t *testing.T) {
	for _, c := range calls() {
		threes(func(a, b, m api.Nat) {
			if got := c.of(a, b, m); cap(got) != len(got) {
				t.Errorf("%s(%x, %x, %x): %d words, room for %d", c.name, a, b, m, len(got), cap(got))
			}
		})
	}
}

// R5: the same call answers the same.

func TestTheSameAgain(t *testing.T) {
	for _, c := range calls() {
		threes(func(a, b, m api.Nat) {
			if first, second := c.of(a, b, m), c.of(a, b, m); !slices.Equal(first, second) {
				t.Errorf("%s(%x, %x, %x): %x, then %x", c.name, a, b, m, first, second)
			}
		})
	}
}
