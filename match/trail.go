package match

import (
	"math/bits"

	"montage/api"
)

// How many places levels try, the nearest first: a text in which the same bytes come
// very often would take too long otherwise.
const (
	fewTries  = 8
	manyTries = 128
)

// enough is a length from which on the highest level waits for no longer match.
const enough = 32

const (
	markBits = 15 // at most, of a mark
	byteBits = 8
	spread   = 2654435761 // odd, and near 2^32 by the golden ratio: like numbers get far apart
	wordBits = 32
)

// trail keeps a text's places that were gone by, so that those at which the same bytes
// stand are found again: places whose first three bytes are the same have one mark.
// Places are kept with 1 added, so that 0 is none.
type trail struct {
	text   string
	width  int   // bits of a mark
	newest []int // by mark: the last place kept
	older  []int // by place: the one kept ahead of it with the same mark
	kept   int   // the first place that isn't kept yet
}

// newTrail answers a trail of a text with no place kept.
func newTrail(text string) *trail {
	// Short texts come often, and have few places: their marks are few, too.
	width := min(bits.Len(uint(len(text))), markBits)
	return &trail{text: text, width: width, newest: make([]int, 1<<width), older: make([]int, len(text))}
}

// way answers how a level looks for matches: what is called at a place answers the match
// to be taken there, or zeros.
func (t *trail) way(level int) func(at int) (int, int) {
	switch level {
	case 1:
		return t.latest
	case 2:
		return t.longest
	case 3:
		return t.patient
	}
	return t.none
}

// none looks for nothing.
func (t *trail) none(at int) (int, int) {
	return 0, 0
}

// latest looks at the nearest place alone.
func (t *trail) latest(at int) (int, int) {
	return t.search(at, 1)
}

// longest looks for the longest match of a few places.
func (t *trail) longest(at int) (int, int) {
	return t.search(at, fewTries)
}

// patient looks for the longest match of many places, and takes none if there is a longer
// one at the next place.
func (t *trail) patient(at int) (int, int) {
	length, back := t.search(at, manyTries)
	if length == 0 || length >= enough {
		return length, back
	}
	if next, _ := t.search(at+1, manyTries); next > length {
		return 0, 0
	}
	return length, back
}

// search answers the longest match at a place with the last places of its mark, so many
// of them at most.
func (t *trail) search(at, tries int) (int, int) {
	if !t.marked(at) {
		return 0, 0
	}
	t.keepUpTo(at)
	p := newPick(t.text, at)
	from := t.newest[t.mark(at)] - 1
	for range tries {
		if from < 0 || at-from > api.MaxWindow || p.full() {
			break
		}
		p.try(at - from)
		from = t.older[from] - 1
	}
	return p.length, p.back
}

// keepUpTo keeps the places ahead of one that has a mark.
func (t *trail) keepUpTo(at int) {
	for ; t.kept < at; t.kept++ {
		m := t.mark(t.kept)
		t.older[t.kept] = t.newest[m]
		t.newest[m] = t.kept + 1
	}
}

// marked tells whether a place has a mark: one with fewer bytes than a match needs has none.
func (t *trail) marked(at int) bool {
	return len(t.text)-at >= api.MinMatch
}

// mark answers the mark of a place that has one.
func (t *trail) mark(at int) int {
	number := uint32(t.text[at])<<(2*byteBits) | uint32(t.text[at+1])<<byteBits | uint32(t.text[at+2])
	return int(number * spread >> (wordBits - t.width))
}
