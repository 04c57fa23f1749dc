package crc_test

import (
	"hash/crc32"
	"strings"
	"testing"

	"montage/crc"
)

// The CRC as the chapter's words say it, bit by bit.
func byDefinition(s string) uint32 {
	c := uint32(0xFFFFFFFF)
	for _, b := range []byte(s) {
		c ^= uint32(b)
		for range 8 {
			fell := c & 1
			c >>= 1
			if fell == 1 {
				c ^= 0xEDB88320
			}
		}
	}
	return ^c
}

// A text of n bytes, of all kinds, by a fixed rule.
func mixed(n int) string {
	b := make([]byte, n)
	seed := uint32(n) + 1
	for i := range b {
		seed = seed*1664525 + 1013904223
		b[i] = byte(seed >> 24)
	}
	return string(b)
}

func TestOfKnown(t *testing.T) {
	known := []struct {
		text string
		want uint32
	}{
		{"123456789", 0xCBF43926},
		{"", 0},
		{"a", 0xE8B7BE43},
		{"abc", 0x352441C2},
		{"\x00", 0xD202EF8D},
		{"\xff", 0xFF000000},
		{"\x00\x00\x00\x00", 0x2144DF1C},
		{"\xff\xff\xff\xff", 0xFFFFFFFF},
		{"The quick brown fox jumps over the lazy dog", 0x414FA339},
	}
	for _, k := range known {
		if got := crc.Of(k.text); got != k.want {
			t.Errorf("Of(%q) is %08X, not %08X", k.text, got, k.want)
		}
	}
}

func TestOfEveryByte(t *testing.T) {
	for first := range 256 {
		one := string([]byte{byte(first)})
		if got, want := crc.Of(one), byDefinition(one); got != want {
			t.Fatalf("Of(%q) is %08X, not %08X", one, got, want)
		}
		for second := range 256 {
			two := string([]byte{byte(first), byte(second)})
			if got, want := crc.Of(two), byDefinition(two); got != want {
				t.Fatalf("Of(%q) is %08X, not %08X", two, got, want)
			}
		}
	}
}

func TestOfEveryLength(t *testing.T) {
	for n := range 600 {
		s := mixed(n)
		if got, want := crc.Of(s), byDefinition(s); got != want {
			t.Fatalf("of %d bytes: %08X, not %08X", n, got, want)
		}
	}
}

func TestOfLong(t *testing.T) {
	for _, s := range []string{mixed(1 << 20), strings.Repeat("\x00", 1<<22), strings.Repeat("\xff", 1<<22+1)} {
		if got, want := crc.Of(s), crc32.ChecksumIEEE([]byte(s)); got != want {
			t.Errorf("of %d bytes: %08X, not %08X", len(s), got, want)
		}
	}
}

// One bit that is another one is always found.
func TestOfTurnedBit(t *testing.T) {
	s := mixed(97)
	whole := crc.Of(s)
	for at := range len(s) {
		for bit := range 8 {
			b := []byte(s)
			b[at] ^= 1 << bit
			if crc.Of(string(b)) == whole {
				t.Fatalf("bit %d of byte %d was turned, and the CRC is the same", bit, at)
			}
		}
	}
}

// What was asked ahead of a call has no part in its answer.
func TestOfAgain(t *testing.T) {
	first := crc.Of("some text")
	crc.New().Add("other text")
	crc.Of("third text")
	if crc.Of("some text") != first {
		t.Error("the second time the answer is another one")
	}
}
