package hash

import (
	"strings"

	"affiant/api"
)

// known is a text, and its hash of each algorithm, as it is written.
type known struct {
	text string
	want map[int]string
}

func knownTexts() []known {
	return []known{
		{"", map[int]string{
			api.SHA1:   "da39a3ee5e6b4b0d3255bfef95601890afd80709",
			api.SHA224: "d14a028c2a3a2bc9476102bb288234c415a2b01f828ea62ac5b3e42f",
			api.SHA256: "e3b0c44298fc1c149afbf4c8996fb92427ae41e4649b934ca495991b7852b855",
			api.SHA384: "38b060a751ac96384cd9327eb1b1e36a21fdb71114be07434c0cc7bf63f6e1da274edebfe76f65fbd51ad2f14898b95b",
			api.SHA512: "cf83e1357eefb8bdf1542850d66d8007d620e4050b5715dc83f4a921d36ce9ce47d0d13c5d85f2b0ff8318d2877eec2f63b931bd47417a81a538327af927da3e",
		}},
		{"a", map[int]string{
			api.SHA1:   "86f7e437faa5a7fce15d1ddcb9eaeaea377667b8",
			api.SHA224: "abd37534c7d9a2efb9465de931cd7055ffdb8879563ae98078d6d6d5",
			api.SHA256: "ca978112ca1bbdcafac231b39a23dc4da786eff8147c4e72b9807785afee48bb",
			api.SHA384: "54a59b9f22b0b80880d8427e548b7c23abd873486e1f035dce9cd697e85175033caa88e6d57bc35efae0b5afd3145f31",
			api.SHA512: "1f40fc92da241694750979ee6cf582f2d5d7d28e18335de05abc54d0560e0f5302860c652bf08d560252aa5e74210546f369fbbbce8c12cfc7957b2652fe9a75",
		}},
		{"abc", map[int]string{
			api.SHA1:   "a9993e364706816aba3e25717850c26c9cd0d89d",
			api.SHA224: "23097d223405d8228642a477bda255b32aadbce4bda0b3f7e36c9da7",
			api.SHA256: "ba7816bf8f01cfea414140de5dae2223b00361a396177a9cb410ff61f20015ad",
			api.SHA384: "cb00753f45a35e8bb5a03d699ac65007272c32ab0eded1631a8b605a43ff5bed8086072ba1e7cc2358baeca134c825a7",
			api.SHA512: "ddaf35a193617abacc417349ae20413112e6fa4e89a97ea20a9eeee64b55d39a2192992a274fc1a836ba3c23a3feebbd454d4423643ce80e2a9ac94fa54ca49f",
		}},
		{"abcdbcdecdefdefgefghfghighijhijkijkljklmklmnlmnomnopnopq", map[int]string{
			api.SHA1:   "84983e441c3bd26ebaae4aa1f95129e5e54670f1",
			api.SHA224: "75388b16512776cc5dba5da1fd890150b0c6455cb4f58b1952522525",
			api.SHA256: "248d6a61d20638b8e5c026930c3e6039a33ce45964ff2167f6ecedd419db06c1",
			api.SHA384: "3391fdddfc8dc7393707a65b1b4709397cf8b1d162af05abfe8f450de5f36bc6b0455a8520bc4e6f5fe95b1fe3c8452b",
			api.SHA512: "204a8fc6dda82f0a0ced7beb8e08a41657c16ef468b228a8279be331a703c33596fd15c13b1b07f9aa1d3bea57789ca031ad85c7a71dd70354ec631238ca3445",
		}},
		{"abcdefghbcdefghicdefghijdefghijkefghijklfghijklmghijklmnhijklmnoijklmnopjklmnopqklmnopqrlmnopqrsmnopqrstnopqrstu", map[int]string{
			api.SHA1:   "a49b2446a02c645bf419f995b67091253a04a259",
			api.SHA224: "c97ca9a559850ce97a04a96def6d99a9e0e0e2ab14e6b8df265fc0b3",
			api.SHA256: "cf5b16a778af8380036ce59e7b0492370b249b11e8f07a51afac45037afee9d1",
			api.SHA384: "09330c33f71147e83d192fc782cd1b4753111b173b3b05d22fa08086e3b0f712fcc7c71a557e2db966c3e9fa91746039",
			api.SHA512: "8e959b75dae313da8cf4f72814fc143f8f7779c6eb9f7fa17299aeadb6889018501d289e4900f7e4331b99dec4b5433ac7d329eeb6dd26545e96e55b874be909",
		}},
		{strings.Repeat("a", 1000000), map[int]string{
			api.SHA1:   "34aa973cd4c4daa4f61eeb2bdbad27316534016f",
			api.SHA224: "20794655980c91d8bbb4c1ea97618a4bf03f42581948b2ee4ee7ad67",
			api.SHA256: "cdc76e5c9914fb9281a1c7e284d73e67f1809a48a497200e046d39ccc7112cd0",
			api.SHA384: "9d0e1809716474cb086e834e310a4a1ced149e9c00f248527972cec5704c2a5b07b8b3dc38ecc4ebae97ddd87f3d8985",
			api.SHA512: "e718483d0ce769644e2e42c7bc15b4638e1f98b13b2044285632a803afa973ebde0ff244877ea60a4cb0432ce577c31beb009c5c2c49aa2e4eadb217ad8cc09b",
		}},
	}
}
