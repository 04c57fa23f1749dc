package inflate_test

import (
	"bytes"
	"compress/flate"
	"io"
	"math/rand"
	"slices"
	"strings"
	"sync"
	"testing"

	"montage/api"
	"montage/inflate"
)

// answer is what a stream comes to.
type answer struct {
	text  string
	taken int
	kinds []int
}

// teller goes over a stream by the chapter's words, bit by bit; it panics with an error.
type teller struct {
	s     string
	at    int
	most  int
	said  []byte
	kinds []int
}

// told answers by the chapter's words what a stream says.
func told(s string, most int) (a answer, err api.Errno) {
	w := &teller{s: s, most: min(most, 1<<22)}
	defer func() {
		if fault, ok := recover().(api.Errno); ok {
			a, err = answer{}, fault
		}
	}()
	for last := false; !last; {
		last = w.number(1) == 1
		w.block(w.number(2))
	}
	return answer{string(w.said), (w.at + 7) / 8, w.kinds}, api.OK
}

func (w *teller) refuse(wrong bool, err api.Errno) {
	if wrong {
		panic(err)
	}
}

func (w *teller) number(n int) int {
	v := 0
	for i := range n {
		w.refuse(w.at == 8*len(w.s), api.ErrEnd)
		v += int(w.s[w.at/8]>>(w.at%8)&1) << i
		w.at++
	}
	return v
}

// tellerTable holds codes, and all that they begin with.
type tellerTable struct {
	symbols map[string]int
	begins  map[string]int
}

func (w *teller) table(lengths []int) tellerTable {
	filled, count, longest := 0, 0, 0
	for _, n := range lengths {
		if n > 0 {
			filled += 1 << (15 - n)
			count++
			longest = max(longest, n)
		}
	}
	w.refuse(filled != 1<<15 && !(count == 1 && longest == 1) && count != 0, api.ErrCode)
	t := tellerTable{map[string]int{}, map[string]int{}}
	for symbol, code := range codesOf(lengths) {
		if code == "" {
			continue
		}
		t.symbols[code] = symbol
		for i := range len(code) + 1 {
			t.begins[code[:i]]++
		}
	}
	return t
}

// fixedTables are the tables of kind 1, made once for all streams.
var fixedTables = sync.OnceValues(func() (tellerTable, tellerTable) {
	var w teller
	return w.table(fixedLengths()), w.table(slices.Repeat([]int{5}, 32))
})

func (w *teller) symbol(t tellerTable) int {
	for code := ""; ; code += string(rune('0' + w.number(1))) {
		if symbol, ok := t.symbols[code]; ok {
			return symbol
		}
		w.refuse(t.begins[code] == 0, api.ErrCode)
	}
}

func (w *teller) block(kind int) {
	w.kinds = append(w.kinds, kind)
	switch kind {
	case 0:
		w.at = (w.at + 7) / 8 * 8
		n := w.number(16)
		w.refuse(n+w.number(16) != 65535, api.ErrForm)
		w.refuse(len(w.said)+n > w.most, api.ErrLimit)
		for range n {
			w.said = append(w.said, byte(w.number(8)))
		}
	case 1:
		w.symbols(fixedTables())
	case 2:
		w.symbols(w.ownTables())
	case 3:
		w.refuse(true, api.ErrForm)
	}
}

func (w *teller) ownTables() (tellerTable, tellerTable) {
	symbols, distances, firsts := 257+w.number(5), 1+w.number(5), 4+w.number(4)
	w.refuse(symbols > 286 || distances > 30, api.ErrForm)
	lengths := zeros(19)
	for _, symbol := range firstPlaces[:firsts] {
		lengths[symbol] = w.number(3)
	}
	first := w.table(lengths)
	w.refuse(len(first.symbols) == 0, api.ErrCode)
	var row []int
	for len(row) < symbols+distances {
		switch symbol := w.symbol(first); symbol {
		case 16:
			w.refuse(len(row) == 0, api.ErrForm)
			row = append(row, slices.Repeat(row[len(row)-1:], 3+w.number(2))...)
		case 17:
			row = append(row, zeros(3+w.number(3))...)
		case 18:
			row = append(row, zeros(11+w.number(7))...)
		default:
			row = append(row, symbol)
		}
		w.refuse(len(row) > symbols+distances, api.ErrForm)
	}
	w.refuse(row[256] == 0, api.ErrForm)
	return w.table(row[:symbols]), w.table(row[symbols:])
}

func (w *teller) symbols(symbols, distances tellerTable) {
	for {
		symbol := w.symbol(symbols)
		if symbol == 256 {
			return
		}
		if symbol < 256 {
			w.refuse(len(w.said) >= w.most, api.ErrLimit)
			w.said = append(w.said, byte(symbol))
			continue
		}
		w.refuse(symbol > 285, api.ErrForm)
		n := lengthFrom[symbol-257][0] + w.number(lengthWidth(symbol))
		distance := w.symbol(distances)
		w.refuse(distance > 29, api.ErrForm)
		back := distanceFrom[distance][0] + w.number(distanceWidth(distance))
		w.refuse(back > len(w.said), api.ErrForm)
		w.refuse(len(w.said)+n > w.most, api.ErrLimit)
		w.said = []byte(copied(string(w.said), n, back))
	}
}

// asTold holds the calls against the chapter's words, and answers the error.
func asTold(t *testing.T, s string, most int) api.Errno {
	t.Helper()
	want, err := told(s, most)
	if err != api.OK {
		refused(t, s, most, err)
	} else {
		check(t, s, most, want.text, want.taken, want.kinds)
	}
	return err
}

// packed answers what the library's writer makes of a text.
func packed(t *testing.T, s string, level int) string {
	t.Helper()
	var b bytes.Buffer
	w, err := flate.NewWriter(&b, level)
	if err != nil {
		t.Fatal(err)
	}
	if _, err := io.WriteString(w, s); err != nil {
		t.Fatal(err)
	}
	if err := w.Close(); err != nil {
		t.Fatal(err)
	}
	return b.String()
}

func TestStreamsOfTheLibrary(t *testing.T) {
	texts := []string{"", "a", "hello hello hello hello", strings.Repeat("a", 10000), letters(70000), strings.Repeat(letters(300), 200), strings.Repeat(letters(33000), 3)}
	var words strings.Builder
	for i := range 20000 {
		words.WriteString([]string{"archives ", "as ", "layers ", "of ", "trees, ", "squashed\n"}[letters(i%97 + 1)[i%97]%6])
	}
	texts = append(texts, words.String())
	for _, text := range texts {
		for level := -2; level <= 9; level++ {
			s := packed(t, text, level)
			said, taken, err := inflate.Stream(s, len(text))
			if said != text || taken != len(s) || err != api.OK {
				t.Errorf("level %d: %s, %d, %d; want %s, %d", level, short(said), taken, err, short(text), len(s))
			}
			if said, err := inflate.All(s, len(text)); said != text || err != api.OK {
				t.Errorf("level %d: All %s, %d", level, short(said), err)
			}
			if len(text) > 0 {
				refused(t, s, len(text)-1, api.ErrLimit)
			}
		}
	}
}

func TestSpoiltStreamsByTheWords(t *testing.T) {
	choice := rand.New(rand.NewSource(88))
	seen := map[api.Errno]int{}
	for range 3000 {
		text := strings.Repeat(letters(1+choice.Intn(40)), 1+choice.Intn(6))
		if choice.Intn(2) == 0 {
			text = strings.Map(func(r rune) rune { return 'a' + r%7 }, text)
		}
		s := []byte(packed(t, text, choice.Intn(12)-2))
		for range choice.Intn(4) {
			s[choice.Intn(len(s))] ^= 1 << choice.Intn(8)
		}
		if choice.Intn(3) == 0 {
			s = s[:choice.Intn(len(s)+1)]
		}
		most := 10000
		if choice.Intn(3) == 0 {
			most = choice.Intn(len(text)+5) - 1
		}
		seen[asTold(t, string(s), most)]++
	}
	for _, err := range []api.Errno{api.OK, api.ErrForm, api.ErrEnd, api.ErrLimit, api.ErrCode} {
		if seen[err] < 20 {
			t.Errorf("only %d of the error %d", seen[err], err)
		}
	}
}

func TestAnyBytesByTheWords(t *testing.T) {
	choice := rand.New(rand.NewSource(888))
	for range 30000 {
		b := make([]byte, choice.Intn(40))
		for i := range b {
			b[i] = byte(choice.Intn(256))
		}
		if len(b) > 0 {
			b[0] = b[0]&^6 | byte(choice.Intn(3)<<1)
		}
		asTold(t, string(b), choice.Intn(300)-1)
	}
}

// scribble writes a block of any kind in which anything may be wrong.
func scribble(choice *rand.Rand, p *pen, last bool) {
	switch choice.Intn(5) {
	case 0:
		p.stored(last, letters(choice.Intn(12)))
	case 1, 2:
		scrawl(choice, p.fixed(last))
	case 3:
		symbols, distances := anyLengths(choice, 257+choice.Intn(30), 15), anyLengths(choice, 1+choice.Intn(30), 15)
		for range choice.Intn(2) * choice.Intn(2) {
			symbols[choice.Intn(len(symbols))] = choice.Intn(16)
			distances[choice.Intn(len(distances))] = choice.Intn(16)
		}
		scrawl(choice, p.ownOf(last, symbols, distances))
	case 4:
		distances := only(1+choice.Intn(30), 0, choice.Intn(2))
		scrawl(choice, p.ownOf(last, ends(257+choice.Intn(30)), distances))
	}
}

// scrawl writes symbols, most of which may be, up to a block's end.
func scrawl(choice *rand.Rand, c script) {
	for range choice.Intn(12) {
		symbol := choice.Intn(256)
		if choice.Intn(3) == 0 {
			symbol = 257 + choice.Intn(len(c.symbols)-256)
		}
		if symbol >= len(c.symbols) {
			continue
		}
		if choice.Intn(2) == 0 {
			symbol = 'a' + symbol&1
		}
		c.part(symbol, choice.Intn(32))
		if symbol > 256 {
			back := choice.Intn(len(c.distances))
			if choice.Intn(4) > 0 {
				back = min(back, choice.Intn(6))
			}
			c.back(back, choice.Intn(1<<13))
		}
	}
	c.end()
}

func TestScribbledStreamsByTheWords(t *testing.T) {
	choice := rand.New(rand.NewSource(8888))
	seen := map[api.Errno]int{}
	for range 3000 {
		p := newPen()
		for range choice.Intn(3) {
			scribble(choice, p, false)
		}
		scribble(choice, p, true)
		s := p.text()
		if choice.Intn(4) == 0 {
			s = s[:choice.Intn(len(s))]
		}
		most := 3000
		if choice.Intn(4) == 0 {
			most = choice.Intn(60) - 1
		}
		seen[asTold(t, s, most)]++
	}
	for _, err := range []api.Errno{api.OK, api.ErrForm, api.ErrEnd, api.ErrLimit, api.ErrCode} {
		if seen[err] < 100 {
			t.Errorf("only %d of the error %d", seen[err], err)
		}
	}
}
