package inflate_test

import (
	"strings"
	"testing"

	"montage/api"
)

// kindsWithCodes are those whose blocks are symbols.
var kindsWithCodes = []int{1, 2}

// block answers a stream of one block of such a kind.
func block(kind int, write func(c script)) string {
	p := newPen()
	c := p.coded(true, kind)
	write(c)
	c.end()
	return p.text()
}

func TestEachByte(t *testing.T) {
	var all strings.Builder
	for b := range 256 {
		all.WriteByte(byte(b))
	}
	for _, kind := range kindsWithCodes {
		for b := range 256 {
			one := string([]byte{byte(b)})
			s := block(kind, func(c script) { c.say(one) })
			check(t, s, 1, one, len(s), []int{kind})
			refused(t, s, 0, api.ErrLimit)
		}
		s := block(kind, func(c script) { c.say(all.String()) })
		check(t, s, 256, all.String(), len(s), []int{kind})
		refused(t, s, 255, api.ErrLimit)
	}
}

func TestCodesOfKindOne(t *testing.T) {
	// The codes, as the chapter's lengths make them, are written out.
	for symbol, want := range map[int]string{
		0: "00110000", 'A': "01110001", 143: "10111111", 144: "110010000", 255: "111111111",
		256: "0000000", 257: "0000001", 279: "0010111", 280: "11000000", 285: "11000101", 287: "11000111",
	} {
		if got := codesOf(fixedLengths())[symbol]; got != want {
			t.Errorf("the code of %d is %s, want %s", symbol, got, want)
		}
	}
	p := newPen()
	p.head(true, 1)
	p.code("01110001" + "111111111" + "0000001" + "00001" + "0000000")
	check(t, p.text(), 5, "A\xffA\xffA", len(p.text()), []int{1})
}

func TestEachLength(t *testing.T) {
	for _, kind := range kindsWithCodes {
		for n := 3; n <= 258; n++ {
			s := block(kind, func(c script) {
				c.say("abcd")
				c.again(n, 3)
			})
			check(t, s, 4+n, copied("abcd", n, 3), len(s), []int{kind})
			refused(t, s, 3+n, api.ErrLimit)
		}
	}
}

func TestLeastAndGreatestOfEachLengthsSymbol(t *testing.T) {
	for _, kind := range kindsWithCodes {
		for i, from := range lengthFrom {
			greatest := 1<<from[1] - 1
			for _, more := range []int{0, greatest} {
				s := block(kind, func(c script) {
					c.say("xyz")
					c.part(257+i, more)
					c.back(1, 0)
				})
				n := from[0] + more
				check(t, s, 3+n, copied("xyz", n, 2), len(s), []int{kind})
				refused(t, s, 2+n, api.ErrLimit)
			}
		}
	}
}

func TestTheGreatestLengthByTwoSymbols(t *testing.T) {
	for _, kind := range kindsWithCodes {
		for _, told := range [][2]int{{284, 31}, {285, 0}} {
			s := block(kind, func(c script) {
				c.say("ab")
				c.part(told[0], told[1])
				c.back(1, 0)
				c.say("!")
			})
			check(t, s, 261, strings.Repeat("ab", 130)+"!", len(s), []int{kind})
			refused(t, s, 259, api.ErrLimit)
		}
	}
}

func TestLeastAndGreatestOfEachDistance(t *testing.T) {
	base := letters(32768 + 5)
	for _, kind := range kindsWithCodes {
		for symbol, from := range distanceFrom {
			for _, more := range []int{0, 1<<from[1] - 1} {
				p := newPen()
				p.stored(false, base)
				c := p.coded(true, kind)
				c.part(262, 0)
				c.back(symbol, more)
				c.end()
				check(t, p.text(), 40000, copied(base, 8, from[0]+more), len(p.text()), []int{0, kind})
			}
		}
	}
}

func TestDistanceOfAsManyBytesAsThereAre(t *testing.T) {
	for _, kind := range kindsWithCodes {
		for _, n := range []int{1, 2, 3, 4, 5, 6, 7, 8, 9, 256, 257, 258, 259, 1024, 1025, 16384, 24576, 24577, 32767, 32768} {
			base := letters(n)
			s := block(kind, func(c script) {
				c.say(base)
				c.again(5, n)
			})
			check(t, s, n+5, copied(base, 5, n), len(s), []int{kind})
			if n == 32768 {
				continue
			}
			s = block(kind, func(c script) {
				c.say(base)
				c.again(5, n+1)
			})
			refused(t, s, n+5, api.ErrForm)
		}
		// There is nothing at all to be copied.
		for _, back := range []int{1, 2, 32768} {
			refused(t, block(kind, func(c script) { c.again(3, back) }), 1000, api.ErrForm)
		}
	}
}

func TestDistanceReachesIntoBlocksAhead(t *testing.T) {
	for _, kind := range kindsWithCodes {
		for ahead := range 3 {
			p := newPen()
			if ahead == 0 {
				p.stored(false, "hello")
			} else {
				c := p.coded(false, ahead)
				c.say("hello")
				c.end()
			}
			c := p.coded(true, kind)
			c.say("-")
			c.again(4, 6)
			c.end()
			check(t, p.text(), 10, "hello-hell", len(p.text()), []int{ahead, kind})
		}
	}
}

func TestCopyOfWhatTheSameSymbolLaysDown(t *testing.T) {
	for _, kind := range kindsWithCodes {
		for back := 1; back <= 10; back++ {
			for _, n := range []int{3, 4, 9, 10, 11, 20, 257, 258} {
				s := block(kind, func(c script) {
					c.say("0123456789")
					c.again(n, back)
				})
				check(t, s, 1000, copied("0123456789", n, back), len(s), []int{kind})
			}
		}
		s := block(kind, func(c script) {
			c.say("a")
			c.again(3, 1)
			c.again(4, 4)
			c.say("b")
			c.again(5, 2)
		})
		check(t, s, 14, "aaaaaaaabababa", len(s), []int{kind})
	}
}

func TestSymbolsThatAreNone(t *testing.T) {
	for _, symbol := range []int{286, 287} {
		for _, most := range []int{-1, 0, 3, 1000} {
			p := newPen()
			c := p.fixed(true)
			c.code(c.symbols[symbol])
			refused(t, p.text(), most, api.ErrForm)
			c.back(0, 0)
			c.end()
			refused(t, p.text(), most, api.ErrForm)
		}
		p := newPen()
		c := p.fixed(true)
		c.say("abc")
		c.code(c.symbols[symbol])
		c.back(0, 0)
		c.end()
		refused(t, p.text(), 3, api.ErrForm)
		refused(t, p.text(), 2, api.ErrLimit)
	}
}

func TestDistancesThatAreNone(t *testing.T) {
	for _, symbol := range []int{30, 31} {
		p := newPen()
		c := p.fixed(true)
		c.say("abc")
		c.part(257, 0)
		c.back(symbol, 0)
		c.put(0x5555, 16)
		c.end()
		refused(t, p.text(), 1000, api.ErrForm)
		refused(t, p.text(), 3, api.ErrForm)
		refused(t, p.text(), 2, api.ErrLimit)
	}
}

func TestCopyUpToMost(t *testing.T) {
	for _, kind := range kindsWithCodes {
		s := block(kind, func(c script) {
			c.say("ab")
			c.again(10, 2)
			c.again(3, 12)
		})
		check(t, s, 15, copied("abababababab", 3, 12), len(s), []int{kind})
		for most := -1; most < 15; most++ {
			refused(t, s, most, api.ErrLimit)
		}
	}
}
