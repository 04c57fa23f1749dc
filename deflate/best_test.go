package deflate_test

import (
	"math/rand"
	"strings"
	"testing"

	"montage/api"
	"montage/deflate"
)

func TestBestOfEachLevel(t *testing.T) {
	// Of each level there must be texts of which its stream is the best one, and texts of
	// which a higher level's is as short, but another one.
	won, tied := make([]int, len(levels)), make([]int, len(levels))
	choice := rand.New(rand.NewSource(14))
	for range 2500 {
		streams := check(t, noise(choice.Int63(), choice.Intn(300), 1+choice.Intn(20)))
		best := shortest(streams)
		level := 0
		for streams[level] != best {
			level++
		}
		won[level]++
		for _, z := range streams[level+1:] {
			if len(z) == len(best) && z != best {
				tied[level]++
			}
		}
	}
	for range 20 {
		if best := shortest(check(t, noise(choice.Int63(), 300, 256))); len(best) == 305 {
			won[0]++
		}
	}
	for level := range levels {
		if won[level] == 0 || tied[level] == 0 && (level == 1 || level == 2) {
			t.Errorf("level %d: the best %d times, with another one as short %d times", level, won[level], tied[level])
		}
	}
}

func TestBestOfNothingAndOfOneByte(t *testing.T) {
	if z := deflate.Best(""); z == "" || len(z) > 5 {
		t.Errorf("Best of nothing has %d bytes", len(z))
	}
	if z := deflate.Best("a"); z == "" || len(z) > 6 {
		t.Errorf("Best of one byte has %d bytes", len(z))
	}
}

func TestBestOfTooManyBytes(t *testing.T) {
	for _, n := range []int{api.MaxBytes + 1, 2 * api.MaxBytes} {
		if z := deflate.Best(strings.Repeat("a", n)); z != "" {
			t.Errorf("Best of %d bytes has %d", n, len(z))
		}
	}
	if z := deflate.Best(strings.Repeat("a", api.MaxBytes)); z == "" || len(z) > 5000 {
		t.Errorf("Best of %d bytes has %d", api.MaxBytes, len(z))
	}
}

func TestBestIsTheSameAgain(t *testing.T) {
	for _, s := range []string{"", verse, noise(19, 20000, 50)} {
		first := deflate.Best(s)
		deflate.Best(noise(20, 1000, 3))
		if second := deflate.Best(s); first != second {
			t.Errorf("Best(%s) answers another one", shown(s))
		}
	}
}
