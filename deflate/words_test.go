package deflate_test

import (
	"bytes"
	"compress/flate"
	"io"
	"math/rand"
	"strconv"
	"strings"
	"testing"

	"montage/api"
	"montage/deflate"
	"montage/inflate"
)

var levels = []int{0, 1, 2, 3}

// mostOf answers how many bytes a stream may have, by the chapter's words: so many, and 5
// for each 65535 of them, and 5 more.
func mostOf(n int) int {
	sum := n + 5
	for ; n >= 65535; n -= 65535 {
		sum += 5
	}
	return sum
}

// checkStream holds the stream of a text at a level against what is promised of it, and
// answers it.
func checkStream(t *testing.T, s string, level int) string {
	t.Helper()
	z, e := deflate.Stream(s, level)
	if e != api.OK {
		t.Fatalf("Stream(%s, %d): %d", shown(s), level, e)
	}
	if len(z) > mostOf(len(s)) {
		t.Errorf("Stream(%s, %d) has %d bytes, more than %d", shown(s), level, len(z), mostOf(len(s)))
	}
	checkSays(t, z, s, level)
	if level == 0 {
		checkStored(t, z, s)
	}
	return z
}

// checkSays holds that layer 8, and Go's own reader, read the text, and all of the stream.
func checkSays(t *testing.T, z, s string, level int) {
	t.Helper()
	if got, e := inflate.All(z, len(s)); got != s || e != api.OK {
		t.Errorf("Stream(%s, %d) says %s, %d", shown(s), level, shown(got), e)
	}
	source := strings.NewReader(z + "behind")
	got, e := io.ReadAll(flate.NewReader(source))
	if string(got) != s || e != nil || source.Len() != len("behind") {
		t.Errorf("Stream(%s, %d): Go reads %s, leaves %d, %v", shown(s), level, shown(string(got)), source.Len(), e)
	}
}

// checkStored holds that a stream has blocks of kind 0 alone.
func checkStored(t *testing.T, z, s string) {
	t.Helper()
	kinds, e := inflate.Blocks(z, len(s))
	for i, kind := range kinds {
		if kind != 0 {
			t.Errorf("Stream(%s, 0): block %d is of kind %d", shown(s), i, kind)
			return
		}
	}
	if len(kinds) == 0 || e != api.OK {
		t.Errorf("Stream(%s, 0) has %d blocks, %d", shown(s), len(kinds), e)
	}
}

// check holds the streams of a text at all levels, and the best one, and answers the former.
func check(t *testing.T, s string) []string {
	t.Helper()
	var streams []string
	for _, level := range levels {
		streams = append(streams, checkStream(t, s, level))
	}
	for level, z := range streams {
		if len(z) > len(streams[0]) {
			t.Errorf("Stream(%s, %d) has %d bytes, and %d at level 0", shown(s), level, len(z), len(streams[0]))
		}
	}
	if got, want := deflate.Best(s), shortest(streams); got != want {
		t.Errorf("Best(%s) has %d bytes, want the least level's of %d bytes", shown(s), len(got), len(want))
	}
	return streams
}

// shortest answers the shortest stream, of several the least level's.
func shortest(streams []string) string {
	for n := 0; ; n++ {
		for _, z := range streams {
			if len(z) == n {
				return z
			}
		}
	}
}

// shown answers a text for a message: of a long one what it begins with, and its length.
func shown(s string) string {
	if len(s) > 60 {
		return strconv.Quote(s[:60]) + ".. of " + strconv.Itoa(len(s)) + " bytes"
	}
	return strconv.Quote(s)
}

// noise answers n bytes out of so many, from a seed.
func noise(seed int64, n, kinds int) string {
	choice := rand.New(rand.NewSource(seed))
	b := make([]byte, n)
	for i := range b {
		b[i] = byte(choice.Intn(kinds))
	}
	return string(b)
}

// allBytes answers each byte once.
func allBytes() string {
	b := make([]byte, 256)
	for i := range b {
		b[i] = byte(i)
	}
	return string(b)
}

// counted answers n bytes of which no three stand side by side twice, so that there is no
// match: three digits to base 64, each of signs of its own, that count.
func counted(n int) string {
	var b bytes.Buffer
	for i := 0; b.Len() < n; i++ {
		b.Write([]byte{byte(i >> 12 & 63), byte(64 + i>>6&63), byte(128 + i&63)})
	}
	return b.String()[:n]
}

// cut answers the first n bytes of a text, again and again.
func cut(s string, n int) string {
	return strings.Repeat(s, n/len(s)+1)[:n]
}
