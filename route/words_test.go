package route_test

import "montage/api"

// partsBy answers what stands between bytes / , as the chapter says it.
func partsBy(p string) []string {
	if p == "" {
		return nil
	}
	var l []string
	from := 0
	for i := range len(p) {
		if p[i] == '/' {
			l = append(l, p[from:i])
			from = i + 1
		}
	}
	return append(l, p[from:])
}

// joinedBy answers parts with a byte / between two.
func joinedBy(l []string) string {
	p := ""
	for i, part := range l {
		if i > 0 {
			p += "/"
		}
		p += part
	}
	return p
}

// mayBeBy tells whether a path may be, as the chapter says it.
func mayBeBy(p string) bool {
	l := partsBy(p)
	if len(p) < 1 || len(p) > 1024 || len(l) > 32 {
		return false
	}
	for _, part := range l {
		if len(part) < 1 || len(part) > 255 || part == "." || part == ".." {
			return false
		}
		for _, c := range []byte(part) {
			if c == '\\' || c < 32 || c == 127 {
				return false
			}
		}
	}
	return isTextBy(p)
}

// leastBy is the least code point that needs a form of so many bytes.
var leastBy = []int{0, 0, 0x80, 0x800, 0x10000}

// isTextBy tells whether p is UTF-8, read bit by bit.
func isTextBy(p string) bool {
	for len(p) > 0 {
		n, code := ledBy(p[0])
		if n == 0 || n > len(p) {
			return false
		}
		for i := 1; i < n; i++ {
			if p[i]>>6 != 0b10 {
				return false
			}
			code = code<<6 + int(p[i]&0b111111)
		}
		if code < leastBy[n] || code >= 0xD800 && code <= 0xDFFF || code > 0x10FFFF {
			return false
		}
		p = p[n:]
	}
	return true
}

// ledBy answers how many bytes a code point has that begins with c (0 if none does), and
// the bits of it that c holds.
func ledBy(c byte) (int, int) {
	switch {
	case c>>7 == 0:
		return 1, int(c)
	case c>>5 == 0b110:
		return 2, int(c & 0b11111)
	case c>>4 == 0b1110:
		return 3, int(c & 0b1111)
	case c>>3 == 0b11110:
		return 4, int(c & 0b111)
	}
	return 0, 0
}

// formOf answers a code point in a form of n bytes, whether it needs as many or not.
func formOf(code, n int) string {
	if n == 1 {
		return string([]byte{byte(code)})
	}
	l := make([]byte, n)
	for i := n - 1; i > 0; i-- {
		l[i] = 0b10<<6 | byte(code&0b111111)
		code >>= 6
	}
	l[0] = byte(0xFF<<(8-n)) | byte(code)
	return string(l)
}

// shortest answers how many bytes a code point needs.
func shortest(code int) int {
	for n := 4; n > 1; n-- {
		if code >= leastBy[n] {
			return n
		}
	}
	return 1
}

// normalBy answers the path of a name, and whether it is a directory's, as the chapter
// says it.
func normalBy(name string) (string, bool, api.Errno) {
	l := partsBy(name)
	if len(l) > 1 && l[0] == "" {
		return "", false, api.ErrPath
	}
	var left []string
	for _, part := range l {
		if part != "" && part != "." {
			left = append(left, part)
		}
	}
	p := joinedBy(left)
	if !mayBeBy(p) {
		return "", false, api.ErrPath
	}
	return p, l[len(l)-1] == "", api.OK
}

// underBy tells whether p begins with all of dir's parts, and has more.
func underBy(p, dir []string) bool {
	if len(p) <= len(dir) {
		return false
	}
	for i, part := range dir {
		if p[i] != part {
			return false
		}
	}
	return true
}

// orderBy answers which of two texts, taken apart, is ahead: part by part, by bytes.
func orderBy(a, b []string) int {
	for i := 0; i < len(a) && i < len(b); i++ {
		if a[i] < b[i] {
			return -1
		}
		if a[i] > b[i] {
			return 1
		}
	}
	if len(a) == len(b) {
		return 0
	}
	if len(a) < len(b) {
		return -1
	}
	return 1
}

// textsOf answers all texts of at most n letters.
func textsOf(n int, letters ...string) []string {
	all := []string{""}
	last := all
	for range n {
		var more []string
		for _, text := range last {
			for _, letter := range letters {
				more = append(more, text+letter)
			}
		}
		all = append(all, more...)
		last = more
	}
	return all
}

// textsApart answers all texts of at most five letters, among them bytes below and above
// that of / , and what stands between bytes / in each.
func textsApart() ([]string, [][]string) {
	texts := textsOf(5, "a", "/", "-", "\xff")
	parts := make([][]string, len(texts))
	for i, text := range texts {
		parts[i] = partsBy(text)
	}
	return texts, parts
}

// chance makes numbers that look like chance, the same ones each time.
type chance uint64

func (c *chance) below(n int) int {
	*c = *c*6364136223846793005 + 1442695040888963407
	return int(*c>>33) % n
}

// text answers up to most letters by chance.
func (c *chance) text(most int, letters []string) string {
	s := ""
	for range c.below(most + 1) {
		s += letters[c.below(len(letters))]
	}
	return s
}

// spots puts a part alone, first, within and last in a path.
func spots(part string) []string {
	return []string{part, part + "/b", "a/" + part + "/b", "a/" + part}
}
