package block_test

import (
	"strings"
	"testing"

	"montage/api"
	"montage/bits"
	"montage/block"
)

const greatestStored = 65535

func storedTexts() []string {
	return []string{
		"", "\x00", "\xff", "a", "ab", "some bytes", allBytes(),
		letters(255), letters(256), letters(257), letters(greatestStored - 1),
		letters(greatestStored), strings.Repeat("\x00", greatestStored),
	}
}

func TestStoredBits(t *testing.T) {
	for _, text := range storedTexts() {
		for n := range 8 {
			for _, last := range []bool{false, true} {
				// All of the bits ahead are 1, so that one that is changed is seen.
				w := bits.NewWriter()
				w.Put(0xff, n)
				e := block.Stored(w, text, last)
				want := strings.Repeat("1", n) + storedBlock(n, text, last)
				if e != api.OK || bitsIn(w) != want {
					t.Errorf("Stored of %d bytes behind %d bits, last %v: error %d, or other bits", len(text), n, last, e)
				}
			}
		}
	}
}

func TestStoredBitsWrittenOut(t *testing.T) {
	for _, c := range []struct {
		ahead, text string
		last        bool
		want        string
	}{
		{"", "", true, "\x01\x00\x00\xff\xff"},
		{"", "", false, "\x00\x00\x00\xff\xff"},
		{"", "ab", false, "\x00\x02\x00\xfd\xffab"},
		{"11111", "a", true, "\x3f\x01\x00\xfe\xffa"},
		{"11111", "a", false, "\x1f\x01\x00\xfe\xffa"},
		{"111111", "a", true, "\x7f\x00\x01\x00\xfe\xffa"},
		{"11111111", "a", true, "\xff\x01\x01\x00\xfe\xffa"},
	} {
		w := bits.NewWriter()
		put(w, c.ahead)
		if e := block.Stored(w, c.text, c.last); w.Text() != c.want || e != api.OK {
			t.Errorf("Stored(%q) behind %s, last %v: %q, %d; want %q", c.text, c.ahead, c.last, w.Text(), e, c.want)
		}
	}
}

func TestStoredIsRead(t *testing.T) {
	for _, text := range storedTexts() {
		for skew := range 8 {
			for _, last := range []bool{false, true} {
				s := begun("ahead", skew)
				if e := block.Stored(s.w, text, last); e != api.OK {
					t.Errorf("Stored of %d bytes: %d", len(text), e)
				}
				s.add(text, 0)
				s.ended(last)
				s.check(t)
			}
		}
	}
}

func TestStoredRefusesMoreThanMayBe(t *testing.T) {
	for _, n := range []int{greatestStored + 1, greatestStored + 2, 2*greatestStored + 2, 1 << 20} {
		text := strings.Repeat("x", n)
		for skew := range 20 {
			for _, last := range []bool{false, true} {
				w := bits.NewWriter()
				w.Put(1<<20-1, skew)
				if e := block.Stored(w, text, last); e != api.ErrLimit || bitsIn(w) != strings.Repeat("1", skew) {
					t.Errorf("Stored of %d bytes behind %d bits: error %d, then %d bits", n, skew, e, w.Len())
				}
			}
		}
	}
}
