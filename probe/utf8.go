package probe

// Least answers the least code point that needs a form of n bytes.
func Least(n int) int {
	switch n {
	case 2:
		return 0x80
	case 3:
		return 0x800
	case 4:
		return 0x10000
	}
	return 0
}

// Shortest answers how many bytes a code point needs.
func Shortest(code int) int {
	for n := 4; n > 1; n-- {
		if code >= Least(n) {
			return n
		}
	}
	return 1
}

// Form answers a code point in a form of n bytes, whether it needs as many or not.
func Form(code, n int) string {
	if n == 1 {
		return string([]byte{byte(code)})
	}
	l := make([]byte, n)
	for i := n - 1; i > 0; i-- {
		l[i] = 0b10<<6 | byte(code&0b111111)
		code >>= 6
	}
	l[0] = byte(0xFF<<(8-n)) | byte(code)
	return string(l)
}

// First answers the code point that a text begins with, and its bytes (0 if none does).
func First(s string) (int, int) {
	if s == "" {
		return 0, 0
	}
	n, code := ledBy(s[0])
	if n == 0 || n > len(s) {
		return 0, 0
	}
	for i := 1; i < n; i++ {
		if s[i]>>6 != 0b10 {
			return 0, 0
		}
		code = code<<6 + int(s[i]&0b111111)
	}
	if code < Least(n) || code >= 0xD800 && code <= 0xDFFF || code > 0x10FFFF {
		return 0, 0
	}
	return code, n
}

// ledBy answers how many bytes a code point has that begins with c (0 if none does), and
// the bits of it that c holds.
func ledBy(c byte) (int, int) {
	switch {
	case c>>7 == 0:
		return 1, int(c)
	case c>>5 == 0b110:
		return 2, int(c & 0b11111)
	case c>>4 == 0b1110:
		return 3, int(c & 0b1111)
	case c>>3 == 0b11110:
		return 4, int(c & 0b111)
	}
	return 0, 0
}
