package field

import (
	"math/bits"

	"affiant/api"
)

const (
	words = elemBits / wordBits
	over  = 38 // what is left of 2^256, divided by the prime
)

// plus answers the lowest 256 bits of a sum, and the bit above them.
func plus(a, b api.Elem) (api.Elem, uint64) {
	var out api.Elem
	var carry uint64
	for i := range words {
		out[i], carry = bits.Add64(a[i], b[i], carry)
	}
	return out, carry
}

// minus answers a difference, and whether it is below 0: then it is 2^256 too
// great.
func minus(a, b api.Elem) (api.Elem, bool) {
	var out api.Elem
	var borrow uint64
	for i := range words {
		out[i], borrow = bits.Sub64(a[i], b[i], borrow)
	}
	return out, borrow == 1
}

// product answers the words of a product.
func product(a, b api.Elem) [2 * words]uint64 {
	var out [2 * words]uint64
	for i, x := range a {
		var carry uint64
		for j, y := range b {
			out[i+j], carry = wordProduct(x, y, out[i+j], carry)
		}
		out[i+words] = carry
	}
	return out
}

// folded answers a number of 256 bits that is the same as a product, modulo
// the prime.
func folded(p [2 * words]uint64) api.Elem {
	var out api.Elem
	var carry uint64
	for i := range words {
		out[i], carry = wordProduct(p[i+words], over, p[i], carry)
	}
	// What is carried is small, but may be carried over once more: then what
	// is below it is small, too, and nothing is carried any more.
	for range 2 {
		out, carry = plus(out, api.Elem{carry * over})
	}
	return out
}

// wordProduct answers the lower and the higher word of x times y, and two words
// more: that is never more than two words hold.
func wordProduct(x, y, more, carry uint64) (low, high uint64) {
	var first, second uint64
	high, low = bits.Mul64(x, y)
	low, first = bits.Add64(low, more, 0)
	low, second = bits.Add64(low, carry, 0)
	return low, high + first + second
}

// bit tells whether a number's bit is 1.
func bit(a api.Elem, i int) bool { return a[i/wordBits]>>(i%wordBits)&1 == 1 }
