package hash

import (
	"affiant/api"
	"affiant/sha1"
	"affiant/sha256"
	"affiant/sha512"
)

// begun answers an algorithm's hash of nothing; nil, if it is not known.
func begun(alg int) running {
	switch alg {
	case api.SHA1:
		return &kept[[5]uint32]{now: sha1.Start(), block: smallBlock, size: Size(alg), take: takeFive, told: tellFive}
	case api.SHA224, api.SHA256:
		start := sha256.Start(alg == api.SHA256)
		return &kept[[8]uint32]{now: start, block: smallBlock, size: Size(alg), take: takeSmall, told: tellSmall}
	case api.SHA384, api.SHA512:
		start := sha512.Start(alg == api.SHA512)
		return &kept[[8]uint64]{now: start, block: largeBlock, size: Size(alg), take: takeLarge, told: tellLarge}
	}
	return nil
}

func takeFive(h [5]uint32, b []byte) [5]uint32 {
	var block [smallBlock]byte
	copy(block[:], b)
	return sha1.Block(h, block)
}

func takeSmall(h [8]uint32, b []byte) [8]uint32 {
	var block [smallBlock]byte
	copy(block[:], b)
	return sha256.Block(h, block)
}

func takeLarge(h [8]uint64, b []byte) [8]uint64 {
	var block [largeBlock]byte
	copy(block[:], b)
	return sha512.Block(h, block)
}

func tellFive(h [5]uint32, size int) []byte { return tell(h[:], smallWord, size) }

func tellSmall(h [8]uint32, size int) []byte { return tell(h[:], smallWord, size) }

func tellLarge(h [8]uint64, size int) []byte { return tell(h[:], largeWord, size) }
