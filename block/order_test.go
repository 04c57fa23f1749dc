package block_test

import (
	"testing"

	"montage/api"
	"montage/block"
)

// block adds a block of a kind, that says these bytes, by one of the calls.
func (s *stream) block(t *testing.T, kind int, text string, last bool) {
	t.Helper()
	s.blockOf(t, kind, text, bytesOf(text), last)
}

// blockOf adds a block that says a text, or tokens that say the same behind what is there.
func (s *stream) blockOf(t *testing.T, kind int, text string, l []api.Token, last bool) {
	t.Helper()
	var e api.Errno
	switch kind {
	case 0:
		e = block.Stored(s.w, text, last)
	case 1:
		e = block.Plain(s.w, l, last)
	default:
		e = block.Own(s.w, l, last)
	}
	if e != api.OK {
		t.Errorf("a block of kind %d: %d", kind, e)
	}
	s.add(text, kind)
}

// inOrder writes blocks of these kinds, one behind the other.
func inOrder(t *testing.T, skew int, texts []string, kinds ...int) {
	t.Helper()
	s := begun("", skew)
	for i, kind := range kinds {
		s.block(t, kind, texts[i%len(texts)], i == len(kinds)-1)
	}
	s.check(t)
}

func TestBlocksInEveryOrder(t *testing.T) {
	for _, texts := range [][]string{
		{""}, {"", "a"}, {"a", ""}, {"first", "", "third"}, {letters(300), allBytes(), "aaaaaaa"},
		{"\xff\xff", letters(greatestStored), "\x00"},
	} {
		for a := range 3 {
			inOrder(t, a, texts, a)
			for b := range 3 {
				inOrder(t, a+b, texts, a, b)
				for c := range 3 {
					inOrder(t, a+b+c, texts, a, b, c)
				}
			}
		}
	}
}

func TestBlocksOfMatchesInEveryOrder(t *testing.T) {
	// Each says once more what the blocks ahead have said.
	again := []api.Token{{Len: 6, Back: 6}}
	for skew := range 8 {
		for a := range 3 {
			for b := range 3 {
				s := begun("abcdef", skew)
				if skew%2 == 1 {
					s.block(t, a, "abcdef", false)
				}
				s.blockOf(t, a, "abcdef", again, false)
				s.blockOf(t, b, "abcdef", again, true)
				s.check(t)
			}
		}
	}
}

func TestManyBlocks(t *testing.T) {
	s := begun("", 0)
	const count = 200
	for i := range count {
		s.block(t, i*i%3, letters(i), i == count-1)
	}
	s.check(t)
}
