package field_test

import (
	"math"
	"testing"

	"montage/api"
	"montage/field"
)

func cuts(t *testing.T, s string, at, n int, want string, wantErr api.Errno) {
	t.Helper()
	if b, err := field.Cut(s, at, n); b != want || err != wantErr {
		t.Errorf("Cut(%q, %d, %d): %q, %d; want %q, %d", s, at, n, b, err, want, wantErr)
	}
}

func TestCut(t *testing.T) {
	cuts(t, "abcdef", 0, 2, "ab", api.OK)
	cuts(t, "abcdef", 2, 3, "cde", api.OK)
	cuts(t, "\xff\x00\x80", 1, 2, "\x00\x80", api.OK)
}

func TestCutAtTheEdges(t *testing.T) {
	cuts(t, "abc", 0, 3, "abc", api.OK)
	cuts(t, "abc", 2, 1, "c", api.OK)
	cuts(t, "abc", 0, 0, "", api.OK)
	cuts(t, "abc", 3, 0, "", api.OK)
	cuts(t, "", 0, 0, "", api.OK)
}

func TestCutBehindTheEnd(t *testing.T) {
	cuts(t, "abc", 0, 4, "", api.ErrEnd)
	cuts(t, "abc", 2, 2, "", api.ErrEnd)
	cuts(t, "abc", 3, 1, "", api.ErrEnd)
	cuts(t, "abc", 4, 0, "", api.ErrEnd)
	cuts(t, "abc", 4, 1, "", api.ErrEnd)
	cuts(t, "", 0, 1, "", api.ErrEnd)
	cuts(t, "", 1, 0, "", api.ErrEnd)
}

func TestCutBelowNought(t *testing.T) {
	cuts(t, "abc", -1, 0, "", api.ErrEnd)
	cuts(t, "abc", -1, 1, "", api.ErrEnd)
	cuts(t, "abc", -1, 2, "", api.ErrEnd)
	cuts(t, "abc", 0, -1, "", api.ErrEnd)
	cuts(t, "abc", 2, -1, "", api.ErrEnd)
	cuts(t, "abc", 3, -3, "", api.ErrEnd)
	cuts(t, "abc", 4, -1, "", api.ErrEnd)
	cuts(t, "abc", -1, -1, "", api.ErrEnd)
	cuts(t, "", 0, -1, "", api.ErrEnd)
}

func TestCutEveryPiece(t *testing.T) {
	for size := range 7 {
		s := distinct(size)
		for at := -2; at <= size+2; at++ {
			for n := -2; n <= size+2; n++ {
				if at < 0 || n < 0 || at+n > size {
					cuts(t, s, at, n, "", api.ErrEnd)
				} else {
					cuts(t, s, at, n, s[at:at+n], api.OK)
				}
			}
		}
	}
}

func TestCutAtFarPlacesAndLengths(t *testing.T) {
	s := distinct(40)
	for _, at := range farPlaces() {
		for _, n := range []int{0, 1, 40} {
			cuts(t, s, at, n, "", api.ErrEnd)
		}
		for _, n := range farPlaces() {
			cuts(t, s, at, n, "", api.ErrEnd)
		}
	}
	for _, at := range []int{0, 1, 20, 40, 41} {
		for _, n := range farPlaces() {
			cuts(t, s, at, n, "", api.ErrEnd)
		}
	}
	// The sum of these is a place within the text, by wrapping round.
	cuts(t, s, math.MaxInt, math.MinInt+2, "", api.ErrEnd)
	cuts(t, s, math.MinInt, math.MinInt, "", api.ErrEnd)
}
