package deflate

import (
	"montage/api"
	"montage/bits"
	"montage/block"
	"montage/match"
	"montage/shape"
)

// blockTokens is how many tokens a block has that isn't the last one: with fewer of them
// the codes are told too often, with more they fit each part of a text worse.
const blockTokens = 1 << 14

const byteBits = 8

// storedStream answers a stream that says s by blocks of kind 0 alone.
func storedStream(s string) string {
	w := bits.NewWriter()
	writeStored(w, s, true)
	return w.Text()
}

// packedStream answers a stream that says s by the tokens that say it, or by bytes where
// that is shorter.
func packedStream(s string, tokens []api.Token) string {
	w := bits.NewWriter()
	for len(tokens) > blockTokens {
		piece := tokens[:blockTokens]
		n := match.Size(piece)
		writeShortest(w, s[:n], piece, false)
		s, tokens = s[n:], tokens[blockTokens:]
	}
	writeShortest(w, s, tokens, true)
	return w.Text()
}

// writeShortest writes bytes, or the tokens that say them, by what takes the fewest bits.
func writeShortest(w *bits.Writer, s string, tokens []api.Token, last bool) {
	plain, own, _ := block.Sizes(tokens)
	switch min(storedSize(w, s), plain, own) {
	case plain:
		block.Plain(w, tokens, last)
	case own:
		block.Own(w, tokens, last)
	default:
		writeStored(w, s, last)
	}
}

// writeStored writes bytes as blocks of kind 0: one, or more if one can't say them all.
func writeStored(w *bits.Writer, s string, last bool) {
	for len(s) > shape.MostStored {
		block.Stored(w, s[:shape.MostStored], false)
		s = s[shape.MostStored:]
	}
	block.Stored(w, s, last)
}

// storedSize answers how many bits writeStored writes. That hangs on where in a byte the
// writer stands: so they are just written by another one that stands alike.
func storedSize(w *bits.Writer, s string) int {
	ahead := w.Len() % byteBits
	trial := bits.NewWriter()
	trial.Put(0, ahead)
	writeStored(trial, s, false)
	return trial.Len() - ahead
}
