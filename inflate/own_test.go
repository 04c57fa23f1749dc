package inflate_test

import (
	"math/rand"
	"slices"
	"testing"

	"montage/api"
)

// ends answers lengths of n symbols of which 'a', 'b' and the block's end have codes, and 257
// with them if it is one of the n.
func ends(n int) []int {
	l := zeros(n)
	l['a'], l['b'], l[256] = 1, 2, 2
	if n > 257 {
		l[256], l[257] = 3, 3
	}
	return l
}

// row answers a stream of a block of kind 2 with such a row, which says s.
func row(symbols, distances []int, runs []api.Run, s string) string {
	p := newPen()
	p.own(true, len(symbols), len(distances), runs)
	c := script{p, codesOf(symbols), codesOf(distances)}
	c.say(s)
	c.end()
	return p.text()
}

func TestHowManyLengths(t *testing.T) {
	for n := 257; n <= 286; n++ {
		for _, distances := range [][]int{{1}, {1, 1}, only(29, 28, 1), only(30, 29, 1), zeros(1), zeros(30)} {
			s := row(ends(n), distances, each(ends(n), distances), "abba")
			check(t, s, 4, "abba", len(s), []int{2})
			refused(t, s, 3, api.ErrLimit)
		}
	}
}

func TestMoreLengthsThanMayBe(t *testing.T) {
	for _, sizes := range [][2]int{{287, 1}, {288, 1}, {287, 30}, {288, 30}, {257, 31}, {257, 32}, {286, 31}, {286, 32}, {288, 32}} {
		l, d := ends(sizes[0]), only(sizes[1], 0, 1)
		s := row(l, d, each(l, d), "ab")
		refused(t, s, 1000, api.ErrForm)
		refused(t, s, -1, api.ErrForm)
		// It is told right behind the three numbers, whatever follows, or nothing.
		at := cut(t, func(p *pen) {
			p.head(true, 2)
			p.sizes(sizes[0], sizes[1], 19)
		})
		refused(t, at, 1000, api.ErrForm)
		// All three are there ahead of it.
		for width := range 4 {
			at := cut(t, func(p *pen) {
				p.head(true, 2)
				p.put(sizes[0]-257, 5)
				p.put(sizes[1]-1, 5)
				p.put(0, width)
			})
			refused(t, at, 1000, api.ErrEnd)
		}
	}
}

func TestFirstCodeThatIsNone(t *testing.T) {
	for name, first := range map[string][]int{
		"empty":             zeros(19),
		"too few":           only(19, 0, 2),
		"a lone one of 7":   only(19, 18, 7),
		"too many":          {1, 1, 1, 0, 0, 0, 0, 0, 0, 0, 0, 0, 0, 0, 0, 0, 0, 0, 0},
		"all of 4":          slices.Repeat([]int{4}, 19),
		"all of 5":          slices.Repeat([]int{5}, 19),
		"one short of full": {1, 2, 3, 4, 5, 6, 7, 0, 0, 0, 0, 0, 0, 0, 0, 0, 0, 0, 0},
	} {
		at := cut(t, func(p *pen) {
			p.head(true, 2)
			p.sizes(257, 1, 19)
			p.firsts(first, 19)
		})
		t.Run(name, func(t *testing.T) {
			refused(t, at, 1000, api.ErrCode)
			refused(t, at+"\x00\xff\x55\xaa\x00\x00", -1, api.ErrCode)
		})
	}
}

func TestFirstCodeThatIsCut(t *testing.T) {
	// The bits end ahead of the last of lengths that would make no code, or an empty one.
	for _, first := range [][]int{zeros(19), slices.Repeat([]int{4}, 19), slices.Repeat([]int{1}, 19)} {
		for n := range 19 {
			at := cut(t, func(p *pen) {
				p.head(true, 2)
				p.sizes(257, 1, 19)
				p.firsts(first, n)
			})
			refused(t, at, 1000, api.ErrEnd)
		}
	}
}

func TestFirstCodeOfFewLengths(t *testing.T) {
	// Of the least number of lengths there are those of 16, 17, 18 and 0.
	p := newPen()
	p.head(true, 2)
	p.sizes(257, 1, 4)
	first := []int{1, 0, 0, 0, 0, 0, 0, 0, 0, 0, 0, 0, 0, 0, 0, 0, 0, 0, 1}
	p.firsts(first, 4)
	p.runs(first, []api.Run{{Symbol: 18, More: 127}, {Symbol: 18, More: 108}, {Symbol: 0}})
	refused(t, p.text(), 1000, api.ErrForm) // 256 has no length
	// Those behind them are 0, and not what they would be if they were read.
	for n := 4; n < 19; n++ {
		lengths := zeros(19)
		last := firstPlaces[n-1]
		lengths[last] = 1
		at := cut(t, func(p *pen) {
			p.head(true, 2)
			p.sizes(257, 1, n)
			p.firsts(lengths, n)
			p.code("1") // the lone code's other bit
		})
		refused(t, at, 1000, api.ErrCode)
	}
}

func TestEachNumberOfFirstLengths(t *testing.T) {
	// 1 has the last place but one, so that fewer lengths take codes of other symbols.
	symbols, distances := ends(257), []int{1}
	for n := 18; n <= 19; n++ {
		p := newPen()
		p.head(true, 2)
		p.sizes(257, 1, n)
		first := zeros(19)
		first[18], first[1], first[2] = 1, 2, 2
		p.firsts(first, n)
		p.runs(first, []api.Run{
			{Symbol: 18, More: 86}, {Symbol: 1}, {Symbol: 2}, // 97 zeros, a, b
			{Symbol: 18, More: 127}, {Symbol: 18, More: 8}, // 138 and 19 zeros
			{Symbol: 2}, {Symbol: 1}, // the end, a distance
		})
		c := script{p, codesOf(symbols), codesOf(distances)}
		c.say("baab")
		c.end()
		check(t, p.text(), 4, "baab", len(p.text()), []int{2})
	}
}

// anyLengths answers lengths of n symbols that make a full code, of at most longest bits.
func anyLengths(choice *rand.Rand, n, longest int) []int {
	l := []int{0}
	for len(l) < n {
		i := choice.Intn(len(l))
		if l[i] == longest {
			continue
		}
		l[i]++
		l = append(l, l[i])
	}
	choice.Shuffle(n, func(i, j int) { l[i], l[j] = l[j], l[i] })
	return l
}

func TestOrderOfFirstLengths(t *testing.T) {
	choice := rand.New(rand.NewSource(8))
	for range 300 {
		first := anyLengths(choice, 19, 7)
		symbols, distances := anyLengths(choice, 286, 15), anyLengths(choice, 30, 15)
		p := newPen()
		p.head(true, 2)
		p.sizes(286, 30, 19)
		p.firsts(first, 19)
		p.runs(first, each(symbols, distances))
		c := script{p, codesOf(symbols), codesOf(distances)}
		said := letters(20)
		c.say(said)
		c.again(7, 13)
		c.end()
		check(t, p.text(), 27, copied(said, 7, 13), len(p.text()), []int{2})
	}
}

func TestSixteenFirstOfAll(t *testing.T) {
	for more := range 4 {
		p := newPen()
		p.own(true, 257, 1, []api.Run{{Symbol: 16, More: more}})
		p.put(0, 32)
		refused(t, p.text(), 1000, api.ErrForm)
	}
	// Its bits needn't be there.
	for width := range 3 {
		at := cut(t, func(p *pen) {
			p.own(true, 257, 1, nil)
			p.code(codesOf(anyFirst)[16])
			p.put(0, width)
		})
		refused(t, at, 1000, api.ErrForm)
	}
	// Nor does a lone code save it.
	at := cut(t, func(p *pen) {
		p.head(true, 2)
		p.sizes(257, 1, 4)
		p.firsts(only(19, 16, 1), 4)
		p.code("0")
	})
	refused(t, at, 1000, api.ErrForm)
}

// unfolded answers the row that runs say.
func unfolded(runs []api.Run) []int {
	var l []int
	for _, run := range runs {
		switch run.Symbol {
		case 16:
			l = append(l, slices.Repeat(l[len(l)-1:], 3+run.More)...)
		case 17:
			l = append(l, zeros(3+run.More)...)
		case 18:
			l = append(l, zeros(11+run.More)...)
		default:
			l = append(l, run.Symbol)
		}
	}
	return l
}

// repetitions are those symbols, each with the least and the greatest number behind it.
var repetitions = []api.Run{{Symbol: 16}, {Symbol: 16, More: 3}, {Symbol: 17}, {Symbol: 17, More: 7}, {Symbol: 18}, {Symbol: 18, More: 127}}

func TestRepetitionsWithinTheRow(t *testing.T) {
	// The lengths from 0 on begin with a length and its repetition, and are filled up.
	for _, ahead := range []int{0, 5, 7, 9} {
		for _, run := range repetitions {
			runs := []api.Run{{Symbol: ahead}, run}
			symbols := unfolded(runs)
			symbols = append(symbols, zeros(257-len(symbols))...)
			symbols[256] = 1
			symbols = filledUp(symbols)
			runs = append(runs, each(symbols[len(unfolded(runs)):], zeros(1))...)
			s := row(symbols, zeros(1), runs, "\xfe")
			check(t, s, 1, "\xfe", len(s), []int{2})
		}
	}
}

// filledUp answers lengths with those in place of zeros, from 254 down, that make a full code.
func filledUp(lengths []int) []int {
	l := slices.Clone(lengths)
	room := 1 << 15
	for _, n := range l {
		if n > 0 {
			room -= 1 << (15 - n)
		}
	}
	at := 254
	for n := 1; n <= 15; n++ {
		for room >= 1<<(15-n) {
			l[at] = n
			at--
			room -= 1 << (15 - n)
		}
	}
	return l
}

func TestRepetitionsUpToTheRowsEnd(t *testing.T) {
	for _, distances := range []int{1, 2, 3, 7, 30} {
		for _, run := range repetitions {
			for beyond := range 2 {
				repeated := len(unfolded([]api.Run{{Symbol: 1}, run})) - 1
				// Lengths 5 of symbols, then of distances; the last ones come of the repetition.
				total := 257 + 29 + distances
				runs := each(slices.Repeat([]int{5}, total-repeated+beyond))
				runs = append(runs, run)
				p := newPen()
				p.own(true, 286, distances, runs)
				p.put(0, 32)
				want := api.ErrCode // lengths 5, and 0, that make no code
				if beyond == 1 || repeated > distances+29 {
					want = api.ErrForm // beyond the end, or a length 0 of 256
				}
				refused(t, p.text(), 1000, want)
			}
		}
	}
}

func TestRowEndsWithARepetitionOfEachKind(t *testing.T) {
	// What the row ends with fills distances' lengths, and makes a code.
	symbols := ends(286)
	for _, c := range []struct {
		distances []int
		tail      []api.Run
	}{
		{[]int{2, 2, 2, 2}, []api.Run{{Symbol: 2}, {Symbol: 16}}},
		{[]int{1, 3, 3, 3, 3}, []api.Run{{Symbol: 1}, {Symbol: 3}, {Symbol: 16}}},
		{slices.Concat([]int{1, 2, 4}, slices.Repeat([]int{5}, 6)), []api.Run{{Symbol: 1}, {Symbol: 2}, {Symbol: 4}, {Symbol: 5}, {Symbol: 16, More: 2}}},
		{slices.Concat([]int{3}, slices.Repeat([]int{3}, 6), []int{3}), []api.Run{{Symbol: 3}, {Symbol: 16, More: 3}, {Symbol: 3}}},
		{[]int{1, 0, 0, 0}, []api.Run{{Symbol: 1}, {Symbol: 17}}},
		{only(11, 0, 1), []api.Run{{Symbol: 1}, {Symbol: 17, More: 7}}},
		{only(12, 0, 1), []api.Run{{Symbol: 1}, {Symbol: 18}}},
		{only(30, 0, 1), []api.Run{{Symbol: 1}, {Symbol: 18, More: 18}}},
		{zeros(30), []api.Run{{Symbol: 18, More: 19}}},
	} {
		s := row(symbols, c.distances, append(each(symbols), c.tail...), "ab")
		check(t, s, 2, "ab", len(s), []int{2})
	}
}

func TestRepetitionFromSymbolsIntoDistances(t *testing.T) {
	// The last lengths of symbols and the first of distances come of one repetition.
	symbols := only(286, 'a', 1)
	symbols[256], symbols[284], symbols[285] = 2, 3, 3
	distances := []int{3, 3, 3, 3, 1}
	runs := append(each(symbols[:285]), api.Run{Symbol: 3}, api.Run{Symbol: 16, More: 1}, api.Run{Symbol: 1})
	p := newPen()
	p.own(true, 286, 5, runs)
	c := script{p, codesOf(symbols), codesOf(distances)}
	c.say("a")
	c.part(285, 0)
	c.back(0, 0)
	c.part(284, 31)
	c.back(4, 1)
	c.end()
	check(t, p.text(), 1000, string(slices.Repeat([]byte("a"), 1+258+258)), len(p.text()), []int{2})

	for _, run := range []api.Run{{Symbol: 17, More: 7}, {Symbol: 18, More: 0}, {Symbol: 18, More: 9}} {
		zeroed := len(unfolded([]api.Run{run}))
		symbols, distances := ends(260+4), only(zeroed-6+1, zeroed-6, 1)
		runs := append(each(symbols[:258]), run, api.Run{Symbol: 1})
		s := row(symbols, distances, runs, "ba")
		check(t, s, 2, "ba", len(s), []int{2})
	}
}

func TestLengthAheadIsTheLastOfTheRow(t *testing.T) {
	// Behind zeros that came of 17 or 18, 16 repeats a zero.
	for _, run := range []api.Run{{Symbol: 17}, {Symbol: 18, More: 3}, {Symbol: 0}} {
		runs := []api.Run{{Symbol: 1}, run, {Symbol: 16, More: 3}}
		symbols := unfolded(runs)
		symbols = append(symbols, only(257-len(symbols), 256-len(symbols), 1)...)
		runs = append(runs, each(symbols[len(unfolded(runs)):], zeros(1))...)
		s := row(symbols, zeros(1), runs, "\x00\x00")
		check(t, s, 2, "\x00\x00", len(s), []int{2})
	}
}

func TestNoLengthOfTheEnd(t *testing.T) {
	for name, symbols := range map[string][]int{
		"a full code":  {1, 1},
		"a lone one":   {1},
		"an empty one": {},
		"too full":     {1, 1, 1},
		"not full":     {2, 2},
	} {
		t.Run(name, func(t *testing.T) {
			l := append(slices.Clone(symbols), zeros(257-len(symbols))...)
			for _, distances := range [][]int{{1, 1}, {1}, {0}, {2}, {1, 1, 1}} {
				at := cut(t, func(p *pen) { p.own(true, 257, len(distances), each(l, distances)) })
				refused(t, at, 1000, api.ErrForm)
				refused(t, at+"\x00\x00", -1, api.ErrForm)
			}
		})
	}
}

func TestLengthsThatMakeNoCode(t *testing.T) {
	good, lone := ends(257), only(257, 256, 1)
	full, short := slices.Clone(good), slices.Clone(good)
	full['c'], short['b'] = 15, 0
	deep := only(257, 256, 15)
	for _, c := range []struct {
		symbols, distances []int
	}{
		{full, []int{1, 1}}, {full, []int{1}}, {full, []int{0}}, {full, []int{2}},
		{short, []int{1, 1}}, {short, []int{1}}, {short, []int{0}}, {short, []int{1, 1, 1}},
		{deep, []int{1}}, {only(257, 256, 2), []int{1}},
		{good, []int{2}}, {good, []int{15}}, {good, []int{0, 2, 2}}, {good, []int{1, 1, 15}}, {good, []int{1, 1, 1}},
		{lone, []int{2}}, {lone, []int{2, 2, 2}}, {good, slices.Repeat([]int{5}, 30)},
	} {
		// It is told behind the row, whether or not there are more bits.
		at := cut(t, func(p *pen) { p.own(true, len(c.symbols), len(c.distances), each(c.symbols, c.distances)) })
		refused(t, at, 1000, api.ErrCode)
		refused(t, at+"\x00\x00\x00\x00", -1, api.ErrCode)
	}
}

func TestLoneCodeOfSymbols(t *testing.T) {
	// 256 alone has a length: its one bit is 0.
	for _, distances := range [][]int{{0}, {1}, {1, 1}} {
		at := cut(t, func(p *pen) {
			p.own(true, 257, len(distances), each(only(257, 256, 1), distances))
			p.code("0")
		})
		said, err := told(at, 0)
		if said.text != "" || said.taken != len(at) || err != api.OK {
			t.Errorf("the words themselves ask for %+v, %d", said, err)
		}
		check(t, at, 0, "", len(at), said.kinds)
		bad := cut(t, func(p *pen) {
			p.own(true, 257, len(distances), each(only(257, 256, 1), distances))
			p.code("1")
		})
		refused(t, bad, 1000, api.ErrCode)
		none := cut(t, func(p *pen) { p.own(true, 257, len(distances), each(only(257, 256, 1), distances)) })
		refused(t, none, 1000, api.ErrEnd)
	}
}

func TestDistancesOfWhichNoneHasALength(t *testing.T) {
	for _, n := range []int{1, 2, 30} {
		s := row(ends(258), zeros(n), each(ends(258), zeros(n)), "aab")
		check(t, s, 3, "aab", len(s), []int{2})
		// A length finds no distance, whether or not bits follow.
		at := cut(t, func(p *pen) {
			c := p.ownOf(true, ends(258), zeros(n))
			c.say("aab")
			c.part(257, 0)
		})
		refused(t, at, 1000, api.ErrCode)
		refused(t, at+"\x00\x00", 3, api.ErrCode)
	}
}

func TestDistancesOfWhichOneHasALength(t *testing.T) {
	for _, at := range []int{0, 1, 3, 4, 29} {
		distances := only(30, at, 1)
		base := letters(100)
		p := newPen()
		p.stored(false, letters(32768))
		p.stored(false, base)
		c := p.ownOf(true, ends(258), distances)
		c.part(257, 0)
		c.back(at, 0)
		c.end()
		want := copied(letters(32768)+base, 3, distanceFrom[at][0])
		check(t, p.text(), 40000, want, len(p.text()), []int{0, 0, 2})

		bad := cut(t, func(p *pen) {
			c := p.ownOf(true, ends(258), distances)
			c.say("aab")
			c.part(257, 0)
			p.code("1")
		})
		refused(t, bad, 1000, api.ErrCode)
		refused(t, bad+"\x00\x00", 1000, api.ErrCode)
		none := cut(t, func(p *pen) {
			c := p.ownOf(true, ends(258), distances)
			c.say("aab")
			c.part(257, 0)
		})
		refused(t, none, 1000, api.ErrEnd)
	}
}

func TestCodesOfTheGreatestLength(t *testing.T) {
	// Symbols of 1, 2, 3, up to 14 bits, and two of 15; so are the distances.
	symbols, distances := zeros(286), zeros(30)
	for i := range 14 {
		symbols['a'+i], distances[i] = i+1, i+1
	}
	symbols[256], symbols[285] = 15, 15
	distances[28], distances[29] = 15, 15
	base := letters(32768)
	p := newPen()
	p.stored(false, base)
	c := p.ownOf(true, symbols, distances)
	c.say("abcdefghijklmn")
	c.part(285, 0)
	c.back(29, 8191)
	c.part(285, 0)
	c.back(28, 0)
	c.end()
	want := copied(copied(base+"abcdefghijklmn", 258, 32768), 258, 16385)
	check(t, p.text(), 40000, want, len(p.text()), []int{0, 2})
}
