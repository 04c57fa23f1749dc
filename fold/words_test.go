package fold_test

import "montage/probe"

// smallBy answers the small letter of a code point, as the chapter says it.
func smallBy(code int) int {
	switch {
	case code >= 0x41 && code <= 0x5A,
		code >= 0xC0 && code <= 0xDE && code != 0xD7,
		code >= 0x391 && code <= 0x3A9 && code != 0x3A2,
		code >= 0x410 && code <= 0x42F:
		return code + 32
	case code >= 0x400 && code <= 0x40F:
		return code + 80
	}
	return code
}

// foldBy answers a text, folded, as the chapter says it.
func foldBy(s string) string {
	folded := ""
	for s != "" {
		code, n := probe.First(s)
		if n == 0 {
			folded += s[:1]
			s = s[1:]
			continue
		}
		small := smallBy(code)
		folded += probe.Form(small, probe.Shortest(small))
		s = s[n:]
	}
	return folded
}

// charOf answers a code point in its shortest form, whether it may be one or not.
func charOf(code int) string {
	return probe.Form(code, probe.Shortest(code))
}

// pieces are letters of each range in their two cases, and bytes out of which texts come
// that are no UTF-8.
func pieces() []string {
	return []string{
		"A", "z", "[", "/", "À", "þ", "×", "Σ", "ω", "Џ", "ѐ", "Я", "漢", "😀", "\ufffd",
		"\x80", "\x97", "\xa0", "\xbf", "\xc0", "\xc1", "\xc3", "\xce", "\xd0", "\xe0", "\xed", "\xf0", "\xf4", "\xf5", "\xff",
	}
}
