package deflate_test

import (
	"math"
	"strings"
	"testing"

	"montage/api"
	"montage/deflate"
)

// textsOf answers texts of n bytes: of one byte, of few, of all, and by chance.
func textsOf(n int) []string {
	return []string{
		strings.Repeat("a", n), cut("ab\x00", n), cut(allBytes(), n),
		noise(int64(n), n, 3), noise(int64(n), n, 256), counted(n),
	}
}

func TestStreamAboutTheEdges(t *testing.T) {
	for _, n := range []int{65534, 65535, 65536, 131069, 131070, 131071, 3 * 65535, 5*65535 - 1} {
		for _, s := range textsOf(n) {
			check(t, s)
		}
	}
}

func TestStreamAtLevel0HasTheFewestBlocks(t *testing.T) {
	for _, c := range [][2]int{{0, 5}, {1, 6}, {65534, 65539}, {65535, 65540}, {65536, 65546}, {131070, 131080}, {131071, 131086}} {
		if z := checkStream(t, noise(17, c[0], 256), 0); len(z) != c[1] {
			t.Errorf("%d bytes: %d, want %d", c[0], len(z), c[1])
		}
	}
}

// checkLevels holds the streams of a text at all levels.
func checkLevels(t *testing.T, s string) {
	t.Helper()
	for _, level := range levels {
		checkStream(t, s, level)
	}
}

func TestStreamThatCanNotBePacked(t *testing.T) {
	// Matches are rare, and hardly any is shorter than what it says: so a block says a few
	// bytes more than one of kind 0 may have, or a few fewer.
	for seed := range int64(2) {
		for _, n := range []int{16384, 32768, 65535, 65536, 131070} {
			checkLevels(t, noise(seed, n, 256))
			checkLevels(t, noise(seed, n, 254))
		}
	}
	checkLevels(t, noise(21, 16*65535-1, 256))
}

func TestStreamOfAsManyBytesAsMayBe(t *testing.T) {
	texts := textsOf(api.MaxBytes)
	check(t, texts[0])
	for _, s := range texts[1:5] {
		checkLevels(t, s)
	}
}

// refused holds that there is no stream, but an error.
func refused(t *testing.T, s string, level int, want api.Errno) {
	t.Helper()
	if z, e := deflate.Stream(s, level); z != "" || e != want {
		t.Errorf("Stream(%s, %d): %d bytes, %d; want none, %d", shown(s), level, len(z), e, want)
	}
}

var noLevels = []int{math.MinInt, math.MinInt + 1, -1 << 32, -256, -4, -3, -2, -1, 4, 5, 6, 256, 1 << 32, 1<<32 + 1, math.MaxInt - 1, math.MaxInt}

func TestStreamOfNoLevel(t *testing.T) {
	for _, level := range noLevels {
		for _, s := range []string{"", "a", "aaaaaaaa", verse, noise(18, 70000, 256)} {
			refused(t, s, level, api.ErrArg)
		}
	}
}

func TestStreamOfTooManyBytes(t *testing.T) {
	for _, n := range []int{api.MaxBytes + 1, api.MaxBytes + 2, 2 * api.MaxBytes} {
		for _, s := range []string{strings.Repeat("\x00", n), cut(verse, n)} {
			for _, level := range levels {
				refused(t, s, level, api.ErrLimit)
			}
			for _, level := range noLevels {
				refused(t, s, level, api.ErrArg)
			}
		}
	}
}
