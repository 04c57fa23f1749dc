package inflate_test

import (
	"testing"

	"montage/api"
	"montage/inflate"
)

// metFirst is a stream, cut behind what write writes, and the error that is met first in it.
type metFirst struct {
	name  string
	most  int
	want  api.Errno
	write func(p *pen)
}

// meet holds streams against the errors that are met first: of those that are cut off, and
// of the same with bytes behind them, if the error doesn't hang on where the bits end.
func meet(t *testing.T, cases []metFirst) {
	t.Helper()
	for _, c := range cases {
		t.Run(c.name, func(t *testing.T) {
			s := cut(t, c.write)
			refused(t, s, c.most, c.want)
			if c.want != api.ErrEnd {
				refused(t, s+"\x00\x00\x00\x00\x00", c.most, c.want)
				refused(t, s+"\xff\xff\xff\xff\xff", c.most, c.want)
			}
		})
	}
}

func TestFirstErrorOfABlocksHead(t *testing.T) {
	meet(t, []metFirst{
		{"nothing behind a block", 1000, api.ErrEnd, func(p *pen) { p.fixed(false).end() }},
		{"a bit alone", 1000, api.ErrEnd, func(p *pen) { p.put(1, 1) }},
		{"a bit, and half a kind", 1000, api.ErrEnd, func(p *pen) { p.put(3, 2) }},
		{"kind 3, the last", 1000, api.ErrForm, func(p *pen) { p.head(true, 3) }},
		{"kind 3, not the last", 1000, api.ErrForm, func(p *pen) { p.head(false, 3) }},
		{"kind 3, nothing may be said", -1, api.ErrForm, func(p *pen) { p.head(true, 3) }},
		{"kind 0 alone", 1000, api.ErrEnd, func(p *pen) { p.head(true, 0) }},
		{"kind 1 alone", 1000, api.ErrEnd, func(p *pen) { p.head(true, 1) }},
		{"kind 2 alone", 1000, api.ErrEnd, func(p *pen) { p.head(true, 2) }},
	})
	refused(t, "\x06", 1000, api.ErrForm)
	refused(t, "\x07", 1000, api.ErrForm)
	refused(t, "\xff", 1000, api.ErrForm)
}

func TestFirstErrorOfTwoBlocks(t *testing.T) {
	for kind := range 3 {
		ahead := func(p *pen) {
			if kind == 0 {
				p.stored(false, "abc")
				return
			}
			c := p.coded(false, kind)
			c.say("abc")
			c.end()
		}
		meet(t, []metFirst{
			{"more than most, then kind 3", 2, api.ErrLimit, func(p *pen) { ahead(p); p.head(true, 3); p.w.Align() }},
			{"kind 3 behind what may be", 3, api.ErrForm, func(p *pen) { ahead(p); p.head(true, 3); p.w.Align() }},
			{"the bits end behind what may be", 3, api.ErrEnd, func(p *pen) { ahead(p) }},
			{"more than most, then the bits end", 2, api.ErrLimit, func(p *pen) { ahead(p) }},
			{"kind 3, then more than most", 2, api.ErrForm, func(p *pen) { p.head(false, 3); ahead(p) }},
		})
	}
}

func TestFirstErrorOfTheRow(t *testing.T) {
	first := codesOf(anyFirst)
	lengths := ends(257)
	meet(t, []metFirst{
		{"nothing of the row", 1000, api.ErrEnd, func(p *pen) { p.own(true, 257, 1, nil) }},
		{"within a code", 1000, api.ErrEnd, func(p *pen) { p.own(true, 257, 1, nil); p.code(first[0][:3]) }},
		{"within a code, as 16 begins", 1000, api.ErrEnd, func(p *pen) { p.own(true, 257, 1, nil); p.code(first[16][:4]) }},
		{"16 first of all", -1, api.ErrForm, func(p *pen) { p.own(true, 257, 1, nil); p.code(first[16]) }},
		{"16 behind a length, without bits", 1000, api.ErrEnd, func(p *pen) { p.own(true, 257, 1, each([]int{0})); p.code(first[16]) }},
		{"16 behind a length, with one bit", 1000, api.ErrEnd, func(p *pen) { p.own(true, 257, 1, each([]int{0})); p.code(first[16] + "1") }},
		{"17 without bits", 1000, api.ErrEnd, func(p *pen) { p.own(true, 257, 1, nil); p.code(first[17]) }},
		{"17 with two bits", 1000, api.ErrEnd, func(p *pen) { p.own(true, 257, 1, nil); p.code(first[17] + "11") }},
		{"18 without bits", 1000, api.ErrEnd, func(p *pen) { p.own(true, 257, 1, nil); p.code(first[18]) }},
		{"18 with six bits", 1000, api.ErrEnd, func(p *pen) { p.own(true, 257, 1, nil); p.code(first[18] + "111111") }},
		{"16 at the row's end, without its bits", 1000, api.ErrEnd, func(p *pen) { p.own(true, 257, 1, each(lengths)); p.code(first[16]) }},
		{"17 at the row's end, without its bits", 1000, api.ErrEnd, func(p *pen) { p.own(true, 257, 1, each(lengths)); p.code(first[17]) }},
		{"18 at the row's end, without its bits", 1000, api.ErrEnd, func(p *pen) { p.own(true, 257, 1, each(lengths)); p.code(first[18]) }},
		{"16 beyond the row's end", -1, api.ErrForm, func(p *pen) { p.own(true, 257, 1, append(each(lengths), api.Run{Symbol: 16})) }},
		{"17 beyond the row's end", -1, api.ErrForm, func(p *pen) { p.own(true, 257, 1, append(each(lengths), api.Run{Symbol: 17})) }},
		{"18 beyond the row's end", -1, api.ErrForm, func(p *pen) { p.own(true, 257, 1, append(each(lengths), api.Run{Symbol: 18})) }},
		{"beyond the end of lengths that make no code", 1000, api.ErrForm, func(p *pen) {
			p.own(true, 257, 1, append(each(only(257, 256, 9)), api.Run{Symbol: 18}))
		}},
		{"the row's last length is missing", 1000, api.ErrEnd, func(p *pen) { p.own(true, 257, 1, each(zeros(257))) }},
		{"no symbol behind the row", 1000, api.ErrEnd, func(p *pen) { p.own(true, 257, 1, each(lengths, []int{1})) }},
	})
}

func TestFirstErrorOfALoneFirstCode(t *testing.T) {
	begin := func(p *pen, symbol int) {
		p.head(true, 2)
		p.sizes(257, 1, 19)
		p.firsts(only(19, symbol, 1), 19)
	}
	meet(t, []metFirst{
		{"no bit", 1000, api.ErrEnd, func(p *pen) { begin(p, 18) }},
		{"the other bit", 1000, api.ErrCode, func(p *pen) { begin(p, 18); p.code("1") }},
		{"the other bit, behind a repetition", 1000, api.ErrCode, func(p *pen) { begin(p, 18); p.code("0"); p.put(127, 7); p.code("1") }},
		{"a repetition without bits", 1000, api.ErrEnd, func(p *pen) { begin(p, 18); p.code("0") }},
		{"beyond the end", 1000, api.ErrForm, func(p *pen) { begin(p, 18); p.code("0"); p.put(127, 7); p.code("0"); p.put(127, 7) }},
		{"up to the end: 256 has no length", 1000, api.ErrForm, func(p *pen) { begin(p, 18); p.code("0"); p.put(127, 7); p.code("0"); p.put(109, 7) }},
		{"16 alone", 1000, api.ErrForm, func(p *pen) { begin(p, 16); p.code("0") }},
		{"16 alone, the other bit", 1000, api.ErrCode, func(p *pen) { begin(p, 16); p.code("1") }},
	})
}

func TestFirstErrorOfAByte(t *testing.T) {
	for _, kind := range kindsWithCodes {
		meet(t, []metFirst{
			{"the bits end within a code", 1000, api.ErrEnd, func(p *pen) { c := p.coded(true, kind); c.code(c.symbols['a'][:7]) }},
			{"within a code, nothing may be said", 0, api.ErrEnd, func(p *pen) { c := p.coded(true, kind); c.code(c.symbols['a'][:7]) }},
			{"more than most, and the bits end", 0, api.ErrLimit, func(p *pen) { p.coded(true, kind).say("a") }},
			{"the bits end behind a byte", 1, api.ErrEnd, func(p *pen) { p.coded(true, kind).say("a") }},
		})
	}
	// A byte without a code, of a lone code: the table's error, whatever may be said.
	meet(t, []metFirst{
		{"no code", 0, api.ErrCode, func(p *pen) { p.ownOf(true, only(257, 256, 1), zeros(1)).code("1") }},
		{"no code, and nothing may be said", -1, api.ErrCode, func(p *pen) { p.ownOf(true, only(257, 256, 1), zeros(1)).code("1") }},
	})
}

func TestFirstErrorOfALength(t *testing.T) {
	for _, kind := range kindsWithCodes {
		begin := func(p *pen) script {
			c := p.coded(true, kind)
			c.say("abc")
			return c
		}
		meet(t, []metFirst{
			{"no bits of the length", 3, api.ErrEnd, func(p *pen) { c := begin(p); c.code(c.symbols[284]) }},
			{"four of five bits of the length", 3, api.ErrEnd, func(p *pen) { c := begin(p); c.code(c.symbols[284]); p.put(15, 4) }},
			{"no distance", 3, api.ErrEnd, func(p *pen) { begin(p).part(257, 0) }},
			{"within a distance's code", 3, api.ErrEnd, func(p *pen) { c := begin(p); c.part(284, 31); c.code(c.distances[29][:4]) }},
			{"no bits of the distance", 3, api.ErrEnd, func(p *pen) { c := begin(p); c.part(257, 0); c.code(c.distances[29]) }},
			{"all but one bit of the distance", 3, api.ErrEnd, func(p *pen) { c := begin(p); c.part(257, 0); c.code(c.distances[29]); p.put(4095, 12) }},
			{"too far back, and too many", 3, api.ErrForm, func(p *pen) { c := begin(p); c.part(257, 0); c.back(3, 0) }},
			{"too far back by its bits, and too many", 3, api.ErrForm, func(p *pen) { c := begin(p); c.part(285, 0); c.back(29, 8191) }},
			{"too many, and the bits end", 5, api.ErrLimit, func(p *pen) { c := begin(p); c.part(257, 0); c.back(2, 0) }},
			{"as many as may be, and the bits end", 6, api.ErrEnd, func(p *pen) { c := begin(p); c.part(257, 0); c.back(2, 0) }},
			{"a byte too many stands ahead", 2, api.ErrLimit, func(p *pen) { c := begin(p); c.part(257, 0); c.back(29, 0) }},
		})
	}
	meet(t, []metFirst{
		{"286, no distance", -1, api.ErrForm, func(p *pen) { c := p.fixed(true); c.code(c.symbols[286]) }},
		{"287, no distance", -1, api.ErrForm, func(p *pen) { c := p.fixed(true); c.code(c.symbols[287]) }},
		{"distance 30, nothing there", -1, api.ErrForm, func(p *pen) { c := p.fixed(true); c.part(257, 0); c.back(30, 0) }},
		{"distance 31, nothing there", -1, api.ErrForm, func(p *pen) { c := p.fixed(true); c.part(257, 0); c.back(31, 0) }},
		{"distance 28 without bits, nothing there", -1, api.ErrEnd, func(p *pen) { c := p.fixed(true); c.part(257, 0); c.code(c.distances[28]) }},
	})
}

func TestFirstErrorOfALengthWithoutDistances(t *testing.T) {
	// 'a', the end and 284 have codes; no distance has, or one alone.
	symbols := only(286, 'a', 1)
	symbols[256], symbols[284] = 2, 2
	meet(t, []metFirst{
		{"none: the length's bits end", 1000, api.ErrEnd, func(p *pen) { c := p.ownOf(true, symbols, zeros(1)); c.code(c.symbols[284]) }},
		{"none: four of five bits", 1000, api.ErrEnd, func(p *pen) { c := p.ownOf(true, symbols, zeros(1)); c.code(c.symbols[284]); p.put(0, 4) }},
		{"none", 1000, api.ErrCode, func(p *pen) { p.ownOf(true, symbols, zeros(1)).part(284, 0) }},
		{"none, and nothing may be said", -1, api.ErrCode, func(p *pen) { p.ownOf(true, symbols, zeros(30)).part(284, 31) }},
		{"one: the bits end", 1000, api.ErrEnd, func(p *pen) { p.ownOf(true, symbols, []int{1}).part(284, 0) }},
		{"one: the other bit", -1, api.ErrCode, func(p *pen) { p.ownOf(true, symbols, []int{1}).part(284, 0); p.code("1") }},
		{"one: nothing there", -1, api.ErrForm, func(p *pen) { p.ownOf(true, symbols, []int{1}).part(284, 0); p.code("0") }},
		{"one: more than most", 228, api.ErrLimit, func(p *pen) {
			c := p.ownOf(true, symbols, []int{1})
			c.say("aa")
			c.part(284, 0)
			p.code("0")
		}},
	})
}

func TestAllTellsMoreBytesBehindAllElse(t *testing.T) {
	for _, kinds := range rows() {
		s, said := streamOf(kinds)
		for _, behind := range []string{"\x00", "x", s} {
			if got, err := inflate.All(s+behind, len(said)); got != "" || err != api.ErrForm {
				t.Errorf("All(%s) = %s, %d", short(s+behind), short(got), err)
			}
			if got, err := inflate.All(s+behind, len(said)-1); got != "" || err != api.ErrLimit {
				t.Errorf("All(%s) = %s, %d", short(s+behind), short(got), err)
			}
		}
	}
	spoilt := cut(t, func(p *pen) { p.own(true, 257, 1, each(only(257, 256, 9), zeros(1))) })
	if got, err := inflate.All(spoilt+"xx", 1000); got != "" || err != api.ErrCode {
		t.Errorf("%s, %d", short(got), err)
	}
}
