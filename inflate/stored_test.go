package inflate_test

import (
	"testing"

	"montage/api"
)

// storedBytes answers a last block of kind 0 with such lengths, and such bytes.
func storedBytes(n, turned int, s string) string {
	p := newPen()
	p.head(true, 0)
	p.w.Align()
	p.put(n, 16)
	p.put(turned, 16)
	p.w.Write(s)
	return p.text()
}

func TestStoredLengths(t *testing.T) {
	for _, n := range []int{0, 1, 2, 255, 256, 257, 32767, 32768, 32769, 65534, 65535} {
		said := letters(n)
		s := storedBytes(n, 65535-n, said)
		check(t, s, n, said, 5+n, []int{0})
		check(t, s+"more", n, said, 5+n, []int{0})
		refused(t, s, n-1, api.ErrLimit)
		if n > 0 {
			refused(t, s[:len(s)-1], n, api.ErrEnd)
			refused(t, s[:5], n, api.ErrEnd)
		}
	}
}

func TestStoredBytesAsTheyAre(t *testing.T) {
	check(t, "\x01\x01\x00\xfe\xffa", 1, "a", 6, []int{0})
	check(t, "\x01\x02\x01\xfd\xfe"+letters(258), 258, letters(258), 263, []int{0})
	check(t, "\x00\x01\x00\xfe\xffa\x01\x00\x00\xff\xff", 1, "a", 11, []int{0, 0})
	check(t, "\x01\x00\x00\xff\xff", 0, "", 5, []int{0})
}

func TestStoredLengthsThatDontFit(t *testing.T) {
	said := letters(300)
	for bit := range 16 {
		refused(t, storedBytes(300, 65535-300^1<<bit, said), 1000, api.ErrForm)
		refused(t, storedBytes(300^1<<bit, 65535-300, said), 1000, api.ErrForm)
	}
	refused(t, storedBytes(300, 300, said), 1000, api.ErrForm)
	refused(t, storedBytes(0, 0, ""), 1000, api.ErrForm)
	refused(t, storedBytes(65535, 65535, ""), 1000, api.ErrForm)
}

func TestStoredErrorsInOrder(t *testing.T) {
	// The bits end within the lengths, whatever they would say.
	for _, s := range []string{"\x01", "\x01\xff", "\x01\xff\xff", "\x01\xff\xff\xff", "\x01\x01\x00\xfe"} {
		refused(t, s, 1000, api.ErrEnd)
		refused(t, s, -1, api.ErrEnd)
	}
	// They don't fit together, are more than may be, and bytes are missing.
	refused(t, storedBytes(5, 5, "abc"), 2, api.ErrForm)
	refused(t, storedBytes(5, 5, "abc"), -1, api.ErrForm)
	// More than may be, and bytes are missing.
	refused(t, storedBytes(5, 65530, "abc"), 4, api.ErrLimit)
	refused(t, storedBytes(5, 65530, ""), 4, api.ErrLimit)
	refused(t, storedBytes(65535, 0, ""), 65534, api.ErrLimit)
	refused(t, storedBytes(5, 65530, "abc"), 5, api.ErrEnd)
	refused(t, storedBytes(5, 65530, ""), 5, api.ErrEnd)
	refused(t, storedBytes(65535, 0, ""), 65535, api.ErrEnd)
}

func TestStoredCountsWithWhatStandsAhead(t *testing.T) {
	p := newPen()
	p.stored(false, "abc")
	p.stored(true, "de")
	check(t, p.text(), 5, "abcde", len(p.text()), []int{0, 0})
	refused(t, p.text(), 4, api.ErrLimit)
	refused(t, p.text()[:len(p.text())-1], 4, api.ErrLimit)
	refused(t, p.text(), 2, api.ErrLimit)
}

func TestStoredOfNoBytesBelowMost(t *testing.T) {
	// With its bytes there are none, and none is more than -1.
	empty := storedBytes(0, 65535, "")
	check(t, empty, 0, "", 5, []int{0})
	refused(t, empty, -1, api.ErrLimit)
	p := newPen()
	p.stored(false, "ab")
	p.stored(true, "")
	check(t, p.text(), 2, "ab", len(p.text()), []int{0, 0})
}

func TestStoredBeginsWithAByte(t *testing.T) {
	// A block ahead of it ends at each of a byte's bits; what is passed over may be bits 1.
	seen := map[int]int{}
	for n := range 8 {
		p := newPen()
		c := p.fixed(false)
		said := ""
		for range n {
			c.say("\xf0") // 9 bits
			said += "\xf0"
		}
		c.end()
		p.head(true, 0)
		seen[p.w.Len()%8]++
		for p.w.Len()%8 != 0 {
			p.put(1, 1)
		}
		p.put(3, 16)
		p.put(^3, 16)
		p.w.Write("xyz")
		check(t, p.text(), n+3, said+"xyz", len(p.text()), []int{1, 0})
		refused(t, p.text(), n+2, api.ErrLimit)
	}
	if len(seen) != 8 {
		t.Errorf("only bits %v", seen)
	}
}

func TestStoredIsCopiedFrom(t *testing.T) {
	p := newPen()
	said := letters(32768)
	p.stored(false, said)
	c := p.fixed(true)
	c.again(258, 32768)
	c.end()
	check(t, p.text(), 40000, copied(said, 258, 32768), len(p.text()), []int{0, 1})
}
