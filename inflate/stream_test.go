package inflate_test

import (
	"math"
	"slices"
	"strings"
	"testing"

	"montage/api"
	"montage/inflate"
)

// mosts are numbers of bytes, the least and the greatest that there are among them.
var mosts = []int{math.MinInt, math.MinInt + 1, -65536, -1, 0, 1, 22, 23, api.MaxBytes - 1, api.MaxBytes, api.MaxBytes + 1, 1 << 32, math.MaxInt - 1, math.MaxInt}

// rows answers all rows of kinds 0, 1 and 2 of at least one and at most three.
func rows() [][]int {
	all := [][]int{{}}
	for from := 0; len(all[from]) < 3; from++ {
		for kind := range 3 {
			all = append(all, append(slices.Clone(all[from]), kind))
		}
	}
	return all[1:]
}

// streamOf answers a stream of blocks of such kinds, and what it says. Each block that has
// codes copies from the one ahead.
func streamOf(kinds []int) (string, string) {
	p, said := newPen(), ""
	for i, kind := range kinds {
		last := i == len(kinds)-1
		text := "block" + string(rune('0'+i)) + "\x00\xff"
		if kind == 0 {
			p.stored(last, text)
			said += text
			continue
		}
		c := p.coded(last, kind)
		c.say(text)
		said = copied(said+text, 9, len(said)+1)
		c.again(9, len(said)-9-len(text)+1)
		c.end()
	}
	return p.text(), said
}

func TestChaptersExample(t *testing.T) {
	check(t, "\x03\x00", 1000, "", 2, []int{1})
	check(t, "\x03\x00", 0, "", 2, []int{1})
}

func TestNoBytes(t *testing.T) {
	for _, most := range mosts {
		refused(t, "", most, api.ErrEnd)
	}
}

func TestBlocksOfEachKind(t *testing.T) {
	for _, kinds := range rows() {
		s, said := streamOf(kinds)
		n := len(said)
		for _, most := range []int{n, n + 1, api.MaxBytes, api.MaxBytes + 1, math.MaxInt} {
			check(t, s, most, said, len(s), kinds)
		}
		for _, most := range []int{n - 1, n - 9, 1, 0, -1, -n, math.MinInt} {
			refused(t, s, most, api.ErrLimit)
		}
		for i := range len(s) {
			refused(t, s[:i], n, api.ErrEnd)
		}
		for _, behind := range []string{"\x00", "\xff", "xx", s, "\x03\x00", strings.Repeat("\xff", 1000)} {
			check(t, s+behind, n, said, len(s), kinds)
			refused(t, s+behind, n-1, api.ErrLimit)
		}
	}
}

func TestLastBlockEndsTheStream(t *testing.T) {
	for kind := range 3 {
		first, said := streamOf([]int{kind})
		second, _ := streamOf([]int{2})
		check(t, first+second, len(said), said, len(first), []int{kind})
		check(t, first+"\x07", len(said), said, len(first), []int{kind})
	}
}

func TestTakesTheByteOfTheLastBit(t *testing.T) {
	// The end of a block of kind 1 comes to stand at each of a byte's bits.
	seen := map[int]int{}
	for n := range 16 {
		p := newPen()
		c := p.fixed(true)
		said := strings.Repeat("\xff", n)
		c.say(said) // 9 bits each
		c.end()
		count := p.w.Len()
		seen[count%8]++
		s := p.text()
		check(t, s, n, said, (count+7)/8, []int{1})
		check(t, s+"\xff\xff", n, said, (count+7)/8, []int{1})
		if used := count % 8; used > 0 {
			// Whatever the bits behind the last one are, they belong to nothing.
			filled := s[:len(s)-1] + string([]byte{s[len(s)-1] | byte(0xff<<used)})
			check(t, filled, n, said, len(s), []int{1})
		}
	}
	if len(seen) != 8 {
		t.Errorf("only bits %v", seen)
	}
}

func TestMostWhereNothingIsSaid(t *testing.T) {
	p := newPen()
	p.nothing()
	p.fixed(true).end()
	for _, most := range mosts {
		check(t, "\x03\x00", most, "", 2, []int{1})
		check(t, p.text(), most, "", len(p.text()), []int{2, 1})
	}
}

// longStream answers a stream of a block of kind 1 that says n letters m (n at least 2).
func longStream(n int) string {
	p := newPen()
	c := p.fixed(true)
	c.say("m")
	n--
	for n >= 258+3 || n == 258 {
		c.again(258, 1)
		n -= 258
	}
	for n > 0 {
		if n < 3 {
			c.say("m")
			n--
			continue
		}
		c.again(min(n, 200), 1)
		n -= min(n, 200)
	}
	c.end()
	return p.text()
}

func TestMostAboveMaxBytes(t *testing.T) {
	s := longStream(api.MaxBytes)
	want := strings.Repeat("m", api.MaxBytes)
	for _, most := range []int{api.MaxBytes, api.MaxBytes + 1, math.MaxInt} {
		check(t, s, most, want, len(s), []int{1})
	}
	refused(t, s, api.MaxBytes-1, api.ErrLimit)
	more := longStream(api.MaxBytes + 1)
	for _, most := range []int{api.MaxBytes, api.MaxBytes + 1, 1 << 40, math.MaxInt} {
		refused(t, more, most, api.ErrLimit)
	}
	for _, most := range []int{api.MaxBytes - 1, 1000, 0, -1} {
		refused(t, more, most, api.ErrLimit)
	}
}

func TestEachWayToSayMoreThanMaxBytes(t *testing.T) {
	fill := func(p *pen) {
		for range api.MaxBytes >> 15 {
			p.stored(false, strings.Repeat("s", 1<<15))
		}
	}
	for name, write := range map[string]func(p *pen){
		"a block of kind 0": func(p *pen) { p.stored(true, "x") },
		"a byte":            func(p *pen) { p.fixed(true).say("x") },
		"a copy":            func(p *pen) { p.fixed(true).again(3, 1) },
		"a byte of kind 2":  func(p *pen) { p.wide(true).say("x") },
		"a copy of kind 2":  func(p *pen) { p.wide(true).again(3, 1) },
	} {
		p := newPen()
		fill(p)
		write(p)
		if _, _, err := inflate.Stream(p.text(), math.MaxInt); err != api.ErrLimit {
			t.Errorf("%s: %d", name, err)
		}
	}
	p := newPen()
	fill(p)
	p.stored(true, "")
	if said, _, err := inflate.Stream(p.text(), math.MaxInt); len(said) != api.MaxBytes || err != api.OK {
		t.Errorf("%d bytes, %d", len(said), err)
	}
}

func TestLimitOfTheSmallestMost(t *testing.T) {
	for _, most := range []int{0, -1, math.MinInt} {
		for kind := range 3 {
			s, _ := streamOf([]int{kind})
			refused(t, s, most, api.ErrLimit)
		}
	}
}

func TestManyBlocks(t *testing.T) {
	p := newPen()
	var kinds []int
	for i := range 3000 {
		kinds = append(kinds, i%3)
		switch i % 3 {
		case 0:
			p.stored(false, "")
		case 1:
			p.fixed(false).end()
		case 2:
			p.nothing()
		}
	}
	p.fixed(true).end()
	check(t, p.text(), 0, "", len(p.text()), append(kinds, 1))
}

func TestBlocksAnswersTheCallersOwn(t *testing.T) {
	s, _ := streamOf([]int{1, 0, 2})
	first, _ := inflate.Blocks(s, 1000)
	first[0] = 7
	second, _ := inflate.Blocks(s, 1000)
	if !slices.Equal(second, []int{1, 0, 2}) {
		t.Errorf("%v", second)
	}
}
