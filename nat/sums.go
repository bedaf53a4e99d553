package nat

import "affiant/api"

// Add: a sum.
func Add(a, b api.Nat) api.Nat {
	a, b = trimmed(a), trimmed(b)
	out := make(api.Nat, max(len(a), len(b))+1)
	copy(out, a)
	addTimes(out, b, 1)
	return trimmed(out)
}

// Sub: a difference.
func Sub(a, b api.Nat) (api.Nat, api.Errno) {
	a, b = trimmed(a), trimmed(b)
	if Cmp(a, b) < 0 {
		return nil, api.ErrArg
	}
	out := make(api.Nat, len(a))
	copy(out, a)
	takeTimes(out, b, 1)
	return trimmed(out), api.OK
}

// Mul: a product.
func Mul(a, b api.Nat) api.Nat {
	a, b = trimmed(a), trimmed(b)
	out := make(api.Nat, len(a)+len(b))
	for i, w := range b {
		addTimes(out[i:], a, w)
	}
	return trimmed(out)
}

// Shl: shifted up.
func Shl(a api.Nat, n int) (api.Nat, api.Errno) {
	if n < 0 || n > api.MaxNat {
		return nil, api.ErrArg
	}
	a = trimmed(a)
	words, rest := n/wordBits, n%wordBits
	out := make(api.Nat, words+len(a)+1)
	for i, w := range a {
		wide := uint64(w) << rest
		out[words+i] |= uint32(wide)
		out[words+i+1] = uint32(wide >> wordBits)
	}
	return trimmed(out), api.OK
}

// Shr: shifted down.
func Shr(a api.Nat, n int) api.Nat {
	a, n = trimmed(a), max(n, 0)
	words, rest := n/wordBits, n%wordBits
	if words >= len(a) {
		return nil
	}
	out := make(api.Nat, len(a)-words)
	var above uint64
	for i, w := range down(a[words:]) {
		wide := above<<wordBits | uint64(w)
		out[i] = uint32(wide >> rest)
		above = uint64(w)
	}
	return trimmed(out)
}

// addTimes adds y times x to the words of to, which are no fewer than those of
// x. What is carried past their end is lost.
func addTimes(to, x api.Nat, y uint32) {
	var carry uint64
	for i, w := range x {
		carry += uint64(w)*uint64(y) + uint64(to[i])
		to[i] = uint32(carry)
		carry >>= wordBits
	}
	for i := len(x); i < len(to) && carry > 0; i++ {
		carry += uint64(to[i])
		to[i] = uint32(carry)
		carry >>= wordBits
	}
}

// takeTimes takes y times x away from the words of from, which are no fewer
// than those of x. It tells if that was more than they are: then they have
// wrapped round, and addTimes brings them back.
func takeTimes(from, x api.Nat, y uint32) bool {
	var borrow uint64
	for i, w := range x {
		borrow += uint64(w) * uint64(y)
		borrow = takeWord(from, i, borrow)
	}
	for i := len(x); i < len(from) && borrow > 0; i++ {
		borrow = takeWord(from, i, borrow)
	}
	return borrow > 0
}

// takeWord takes the lowest 32 bits of n away from one word, and answers what
// is still to be taken from the next one: a difference below 0 wraps round, so
// that its highest bit tells that one more is borrowed.
func takeWord(from api.Nat, i int, n uint64) uint64 {
	less := uint64(from[i]) - uint64(uint32(n))
	from[i] = uint32(less)
	return n>>wordBits + less>>63
}
