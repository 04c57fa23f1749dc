package deflate_test

import (
	"math"
	"testing"

	"montage/api"
	"montage/deflate"
)

func TestMost(t *testing.T) {
	for _, c := range [][2]int{
		{0, 5}, {1, 6}, {2, 7}, {255, 260}, {65533, 65538}, {65534, 65539},
		{65535, 65545}, // the chapter's example
		{65536, 65546}, {131069, 131079}, {131070, 131085}, {131071, 131086}, {196605, 196625},
		{api.MaxBytes, 4194629}, {1 << 31, 2147647493}, {1 << 32, 4295294986},
	} {
		if got := deflate.Most(c[0]); got != c[1] {
			t.Errorf("Most(%d): %d, want %d", c[0], got, c[1])
		}
	}
}

func TestMostOfNumbersBelowNone(t *testing.T) {
	for _, n := range []int{-1, -2, -9, -65534, -65535, -65536, -1 << 32, -1 << 40, -1<<40 - 1, math.MinInt + 1, math.MinInt} {
		if got := deflate.Most(n); got != 5 {
			t.Errorf("Most(%d): %d, want 5", n, got)
		}
	}
}

func TestMostOfTheGreatestNumbers(t *testing.T) {
	// 2^40 has 16777472 times 65535 bytes, and 256 over.
	const greatest = 1<<40 + 5*16777472 + 5
	for _, c := range [][2]int{
		{1<<40 - 257, greatest - 257 - 5}, {1<<40 - 256, greatest - 256}, {1<<40 - 2, greatest - 2}, {1<<40 - 1, greatest - 1},
		{1 << 40, greatest}, {1<<40 + 1, greatest}, {1<<40 + 65535, greatest}, {1 << 41, greatest}, {1 << 62, greatest},
		{math.MaxInt - 1, greatest}, {math.MaxInt, greatest},
	} {
		if got := deflate.Most(c[0]); got != c[1] {
			t.Errorf("Most(%d): %d, want %d", c[0], got, c[1])
		}
	}
}

func TestMostByTheWords(t *testing.T) {
	for n := range 400000 {
		if got := deflate.Most(n); got != mostOf(n) {
			t.Fatalf("Most(%d): %d, want %d", n, got, mostOf(n))
		}
	}
	for n := 0; n <= 1<<26; n += 65535 {
		for _, near := range []int{n - 1, n, n + 1} {
			if got := deflate.Most(near); got != mostOf(max(0, near)) {
				t.Fatalf("Most(%d): %d, want %d", near, got, mostOf(max(0, near)))
			}
		}
	}
}
