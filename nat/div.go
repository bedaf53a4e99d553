package nat

import (
	"math/bits"

	"affiant/api"
)

// Div: a quotient, and what is left.
func Div(a, b api.Nat) (api.Nat, api.Nat, api.Errno) {
	a, b = trimmed(a), trimmed(b)
	switch {
	case len(b) == 0:
		return nil, nil, api.ErrArg
	case len(b) == 1:
		q, left := divWord(a, b[0])
		return q, left, api.OK
	case len(a) < len(b):
		return nil, Shr(a, 0), api.OK
	}
	q, left := divWords(a, b)
	return q, left, api.OK
}

// divWord divides by a number of one word.
func divWord(a api.Nat, b uint32) (api.Nat, api.Nat) {
	q := make(api.Nat, len(a))
	var left uint64
	for i, w := range down(a) {
		left = left<<wordBits | uint64(w)
		q[i] = uint32(left / uint64(b))
		left %= uint64(b)
	}
	return trimmed(q), From(left)
}

// divWords divides by a number of two words or more, of which a has no fewer,
// as it is done on paper, a word for a figure. Both are shifted up until the
// divisor's highest bit is set, since only then is a guess by its highest
// words near enough; what is left is shifted down again.
func divWords(a, b api.Nat) (api.Nat, api.Nat) {
	shift := bits.LeadingZeros32(b[len(b)-1])
	by, _ := Shl(b, shift)
	high, _ := Shl(a, shift)
	left := make(api.Nat, len(a)+1)
	copy(left, high)
	q := make(api.Nat, len(a)-len(b)+1)
	for i := range down(q) {
		end := i + len(by) + 1
		q[i] = takeMost(left[i:end:end], by)
	}
	return trimmed(q), Shr(left, shift)
}

// takeMost takes by away from left as often as it can, which has one word more
// and is less than 2^32 times it, and tells how often.
func takeMost(left, by api.Nat) uint32 {
	q := guess(left, by)
	if takeTimes(left, by, q) {
		q--
		addTimes(left, by, 1)
	}
	return q
}

// guess tells how often by, its highest bit set, goes into left, by the three
// highest words of left and the two highest of by: as often, or once more.
func guess(left, by api.Nat) uint32 {
	n := len(by)
	first, second := uint64(by[n-1]), uint64(by[n-2])
	top := uint64(left[n])<<wordBits | uint64(left[n-1])
	q, rest := top/first, top%first
	for rest < over && (q >= over || q*second > rest<<wordBits|uint64(left[n-2])) {
		q--
		rest += first
	}
	return uint32(q)
}
