package crc_test

import (
	"hash/crc32"
	"math"
	"strings"
	"testing"

	"montage/api"
	"montage/crc"
)

// What is to come of two CRCs by the way that the chapter's definition gives: the
// first one is moved on bit by bit, as by n bytes of 0.
func joinByDefinition(a, b uint32, n int) uint32 {
	for range n * 8 {
		fell := a & 1
		a >>= 1
		if fell == 1 {
			a ^= 0xEDB88320
		}
	}
	return a ^ b
}

func TestJoinCutAtEachPlace(t *testing.T) {
	for _, s := range []string{"", "1", "123456789", mixed(300)} {
		for at := range len(s) + 1 {
			a, b := s[:at], s[at:]
			if got, want := crc.Join(crc.Of(a), crc.Of(b), len(b)), byDefinition(s); got != want {
				t.Fatalf("%d bytes, cut at %d: %08X, not %08X", len(s), at, got, want)
			}
		}
	}
}

func TestJoinExample(t *testing.T) {
	if got := crc.Join(crc.Of("1234"), crc.Of("56789"), 5); got != 0xCBF43926 {
		t.Errorf("%08X", got)
	}
}

func TestJoinEveryBit(t *testing.T) {
	for _, n := range []int{0, 1, 2, 3, 4, 5, 7, 8, 64, 255, 1000} {
		for bit := range 32 {
			a := uint32(1) << bit
			if got, want := crc.Join(a, 0, n), joinByDefinition(a, 0, n); got != want {
				t.Fatalf("Join(%08X, 0, %d) is %08X, not %08X", a, n, got, want)
			}
		}
	}
}

func TestJoinEmptySecond(t *testing.T) {
	for _, a := range []uint32{0, 1, 0xCBF43926, 1 << 31, math.MaxUint32} {
		if got := crc.Join(a, crc.Of(""), 0); got != a {
			t.Errorf("%08X and no bytes: %08X", a, got)
		}
	}
}

func TestJoinEmptyFirst(t *testing.T) {
	for n := range 40 {
		s := mixed(n)
		if got := crc.Join(crc.Of(""), crc.Of(s), n); got != crc.Of(s) {
			t.Errorf("no bytes and %d bytes: %08X", n, got)
		}
	}
}

func TestJoinGreatest(t *testing.T) {
	const first = "what stands ahead"
	for _, n := range []int{1<<21 - 1, 1 << 21, api.MaxBytes - 1, api.MaxBytes} {
		for _, second := range []string{mixed(n), strings.Repeat("\x00", n)} {
			want := crc32.ChecksumIEEE([]byte(first + second))
			if got := crc.Join(crc.Of(first), crc.Of(second), n); got != want {
				t.Errorf("n %d: %08X, not %08X", n, got, want)
			}
		}
	}
}

func TestJoinRefused(t *testing.T) {
	wrong := []int{
		-1, -2, -8, -api.MaxBytes, math.MinInt32, math.MinInt, math.MinInt + 1,
		api.MaxBytes + 1, api.MaxBytes + 2, 2 * api.MaxBytes, math.MaxInt32, math.MaxInt32 + 1, math.MaxInt - 1, math.MaxInt,
	}
	for _, n := range wrong {
		for _, a := range []uint32{0, 7, 0xCBF43926, math.MaxUint32} {
			for _, b := range []uint32{0, 9, math.MaxUint32} {
				if got := crc.Join(a, b, n); got != a {
					t.Errorf("Join(%08X, %08X, %d) is %08X", a, b, n, got)
				}
			}
		}
	}
}

// Three texts come to the same, whichever two are taken first.
func TestJoinThree(t *testing.T) {
	a, b, c := mixed(31), mixed(1000), mixed(77)
	left := crc.Join(crc.Join(crc.Of(a), crc.Of(b), len(b)), crc.Of(c), len(c))
	right := crc.Join(crc.Of(a), crc.Join(crc.Of(b), crc.Of(c), len(c)), len(b)+len(c))
	if want := byDefinition(a + b + c); left != want || right != want {
		t.Errorf("%08X and %08X, not %08X", left, right, want)
	}
}
