package scalar

import (
	"bytes"
	"crypto/ed25519"
	"crypto/sha512"
	"fmt"
	"testing"
)

// P12.1: the second half of a signature by the curve is r + k times the secret
// number, modulo the order, where r and k are hashes of 64 bytes. Another
// library signs.

func TestAsAnotherLibrarySigns(t *testing.T) {
	for i := range 200 {
		seed := sha512.Sum512_256(fmt.Appendf(nil, "seed %d", i))
		message := bytes.Repeat([]byte{byte(i)}, i)
		secret := ed25519.NewKeyFromSeed(seed[:])
		public := []byte(secret.Public().(ed25519.PublicKey))
		signature := ed25519.Sign(secret, message)

		h := sha512.Sum512(seed[:])
		r := Wide(sha512.Sum512(joined(h[32:], message)))
		k := Wide(sha512.Sum512(joined(signature[:32], public, message)))
		s := Add(r, Mul(k, Clamp([32]byte(h[:32]))))

		if got := Bytes(s); !bytes.Equal(got[:], signature[32:]) {
			t.Errorf("%d: %x; want %x", i, got, signature[32:])
		}
		read, ok := Read([32]byte(signature[32:]))
		mustBeTrue(t, "Read of the signature", read, ok, s)
	}
}

// joined answers one behind the other.
func joined(parts ...[]byte) []byte { return bytes.Join(parts, nil) }
