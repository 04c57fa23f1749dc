package sha_test

import (
	"crypto/sha256"
	"encoding/binary"
	"encoding/hex"
	"strings"
	"testing"

	"montage/sha"
)

// Lengths about the end of a block, and of its first 56 bytes.
var edges = []int{
	0, 1, 2, 3, 4, 31, 32, 33, 54, 55, 56, 57, 62, 63, 64, 65, 66,
	118, 119, 120, 121, 126, 127, 128, 129, 130, 182, 183, 184, 191, 192, 193,
}

// A text of n bytes, of all kinds, by a fixed rule.
func mixed(n int) string {
	b := make([]byte, n)
	seed := uint32(n) + 1
	for i := range b {
		seed = seed*1664525 + 1013904223
		b[i] = byte(seed >> 24)
	}
	return string(b)
}

// All three calls must tell one and the same key.
func check(t *testing.T, s string) {
	t.Helper()
	want := sha256.Sum256([]byte(s))
	if got := sha.Of(s); got != string(want[:]) {
		t.Errorf("Of %d bytes is %x, not %x", len(s), got, want)
	}
	if got := sha.Hex(s); got != hex.EncodeToString(want[:]) {
		t.Errorf("Hex of %d bytes is %s, not %x", len(s), got, want)
	}
	if got := sha.Short(s); got != binary.BigEndian.Uint64(want[:]) {
		t.Errorf("Short of %d bytes is %x, not %x", len(s), got, want[:8])
	}
}

func TestKnown(t *testing.T) {
	known := []struct{ text, want string }{
		{"", "e3b0c44298fc1c149afbf4c8996fb92427ae41e4649b934ca495991b7852b855"},
		{"a", "ca978112ca1bbdcafac231b39a23dc4da786eff8147c4e72b9807785afee48bb"},
		{"abc", "ba7816bf8f01cfea414140de5dae2223b00361a396177a9cb410ff61f20015ad"},
		{"\x00", "6e340b9cffb37a989ca544e6bb780a2c78901d3fb33738768511a30617afa01d"},
		{"\xff", "a8100ae6aa1940d0b663bb31cd466142ebbdbd5187131b92d93818987832eb89"},
		{"abcdbcdecdefdefgefghfghighijhijkijkljklmklmnlmnomnopnopq", "248d6a61d20638b8e5c026930c3e6039a33ce45964ff2167f6ecedd419db06c1"},
		{"The quick brown fox jumps over the lazy dog", "d7a8fbb307d7809469ca9abcb0082e4f8d5651e46d3cdb762d02d0bf37c9e592"},
		{strings.Repeat("a", 1000000), "cdc76e5c9914fb9281a1c7e284d73e67f1809a48a497200e046d39ccc7112cd0"},
	}
	for _, k := range known {
		if got := sha.Hex(k.text); got != k.want {
			t.Errorf("Hex of %d bytes is %s, not %s", len(k.text), got, k.want)
		}
		check(t, k.text)
	}
}

func TestChapterExample(t *testing.T) {
	if got := sha.Hex(""); !strings.HasPrefix(got, "e3b0c442") {
		t.Errorf("Hex of no bytes is %s", got)
	}
}

func TestShortKnown(t *testing.T) {
	if got := sha.Short(""); got != 0xe3b0c44298fc1c14 {
		t.Errorf("Short of no bytes is %x", got)
	}
	if got := sha.Short("abc"); got != 0xba7816bf8f01cfea {
		t.Errorf("Short of abc is %x", got)
	}
}

func TestOfKnown(t *testing.T) {
	want := "\xba\x78\x16\xbf\x8f\x01\xcf\xea\x41\x41\x40\xde\x5d\xae\x22\x23" +
		"\xb0\x03\x61\xa3\x96\x17\x7a\x9c\xb4\x10\xff\x61\xf2\x00\x15\xad"
	if got := sha.Of("abc"); got != want {
		t.Errorf("Of abc is %x", got)
	}
}

func TestEdges(t *testing.T) {
	for _, n := range edges {
		check(t, mixed(n))
		check(t, strings.Repeat("\x00", n))
		check(t, strings.Repeat("\xff", n))
		check(t, strings.Repeat("\x80", n))
	}
}

func TestEveryLengthOfFewBlocks(t *testing.T) {
	for n := range 520 {
		check(t, mixed(n))
	}
}

func TestEveryByte(t *testing.T) {
	for c := range 256 {
		one := string([]byte{byte(c)})
		check(t, one)
		check(t, strings.Repeat(one, 64))
	}
}

func TestEveryBitOfABlock(t *testing.T) {
	for i := range 64 * 8 {
		b := make([]byte, 64)
		b[i/8] = 1 << (i % 8)
		check(t, string(b))
	}
}

// The number of bits takes more bytes with each of these lengths.
func TestManyBlocks(t *testing.T) {
	for _, n := range []int{4095, 8191, 8192, 8193, 65536, 1<<20 + 5, 1<<21 - 1, 1 << 21, 1<<22 + 57} {
		check(t, mixed(n))
	}
}

func TestShapes(t *testing.T) {
	for _, n := range edges {
		s := mixed(n)
		key, digits := sha.Of(s), sha.Hex(s)
		if len(key) != 32 || len(digits) != 64 {
			t.Fatalf("of %d bytes: %d bytes and %d digits", n, len(key), len(digits))
		}
		var first uint64
		for i := range len(key) {
			high := strings.IndexByte("0123456789abcdef", digits[2*i])
			low := strings.IndexByte("0123456789abcdef", digits[2*i+1])
			if high != int(key[i]>>4) || low != int(key[i]&15) {
				t.Errorf("of %d bytes: byte %d is %d, its digits %s", n, i, key[i], digits[2*i:2*i+2])
			}
			if i < 8 {
				first = first*256 + uint64(key[i])
			}
		}
		if got := sha.Short(s); got != first {
			t.Errorf("of %d bytes: Short is %x, the key's first bytes are %x", n, got, first)
		}
	}
}

func TestSameAgain(t *testing.T) {
	s := mixed(200)
	before := sha.Hex(s)
	sha.Of(mixed(77))
	sha.Short("other")
	if sha.Hex(s) != before || sha.Hex(strings.Clone(s)) != before {
		t.Error("a key hangs on what was asked ahead of it")
	}
}
