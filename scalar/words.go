package scalar

import (
	"affiant/api"
	"affiant/nat"
)

const (
	byteBits  = 8
	wordBits  = 64
	wordBytes = wordBits / byteBits
	halfBits  = wordBits / 2 // of a word of api.Nat
)

// natural answers the same number as an api.Nat. It may have noughts at its
// end: it is only handed on to calls that take them.
func natural(a api.Elem) api.Nat {
	out := make(api.Nat, 0, 2*len(a))
	for _, w := range a {
		out = append(out, uint32(w), uint32(w>>halfBits))
	}
	return out
}

// left answers what is left of a number, divided by the order.
func left(n api.Nat) api.Elem {
	var out api.Elem
	_, rest, _ := nat.Div(n, natural(order))
	for i, w := range rest {
		out[i/2] |= uint64(w) << (i % 2 * halfBits)
	}
	return out
}

// gathered answers the number of 32 bytes, the lowest first, as it stands.
func gathered(b [32]byte) api.Elem {
	var out api.Elem
	for i, x := range b {
		out[i/wordBytes] |= uint64(x) << (i % wordBytes * byteBits)
	}
	return out
}
