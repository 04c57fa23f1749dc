package route_test

import (
	"montage/api"
	"montage/probe"
)

// partsBy answers what stands between bytes / , as the chapter says it.
func partsBy(p string) []string {
	if p == "" {
		return nil
	}
	var l []string
	from := 0
	for i := range len(p) {
		if p[i] == '/' {
			l = append(l, p[from:i])
			from = i + 1
		}
	}
	return append(l, p[from:])
}

// joinedBy answers parts with a byte / between two.
func joinedBy(l []string) string {
	p := ""
	for i, part := range l {
		if i > 0 {
			p += "/"
		}
		p += part
	}
	return p
}

// mayBeBy tells whether a path may be, as the chapter says it.
func mayBeBy(p string) bool {
	l := partsBy(p)
	if len(p) < 1 || len(p) > 1024 || len(l) > 32 {
		return false
	}
	for _, part := range l {
		if len(part) < 1 || len(part) > 255 || part == "." || part == ".." {
			return false
		}
		for _, c := range []byte(part) {
			if c == '\\' || c < 32 || c == 127 {
				return false
			}
		}
	}
	return isTextBy(p)
}

// isTextBy tells whether p is UTF-8, read bit by bit.
func isTextBy(p string) bool {
	for p != "" {
		_, n := probe.First(p)
		if n == 0 {
			return false
		}
		p = p[n:]
	}
	return true
}

// normalBy answers the path of a name, and whether it is a directory's, as the chapter
// says it.
func normalBy(name string) (string, bool, api.Errno) {
	l := partsBy(name)
	if len(l) > 1 && l[0] == "" {
		return "", false, api.ErrPath
	}
	var left []string
	for _, part := range l {
		if part != "" && part != "." {
			left = append(left, part)
		}
	}
	p := joinedBy(left)
	if !mayBeBy(p) {
		return "", false, api.ErrPath
	}
	return p, l[len(l)-1] == "", api.OK
}

// underBy tells whether p begins with all of dir's parts, and has more.
func underBy(p, dir []string) bool {
	if len(p) <= len(dir) {
		return false
	}
	for i, part := range dir {
		if p[i] != part {
			return false
		}
	}
	return true
}

// orderBy answers which of two texts, taken apart, is ahead: part by part, by bytes.
func orderBy(a, b []string) int {
	for i := 0; i < len(a) && i < len(b); i++ {
		if a[i] < b[i] {
			return -1
		}
		if a[i] > b[i] {
			return 1
		}
	}
	if len(a) == len(b) {
		return 0
	}
	if len(a) < len(b) {
		return -1
	}
	return 1
}

// textsApart answers all texts of at most five letters, among them bytes below and above
// that of / , and what stands between bytes / in each.
func textsApart() ([]string, [][]string) {
	texts := probe.Texts(5, "a", "/", "-", "\xff")
	parts := make([][]string, len(texts))
	for i, text := range texts {
		parts[i] = partsBy(text)
	}
	return texts, parts
}

// spots puts a part alone, first, within and last in a path.
func spots(part string) []string {
	return []string{part, part + "/b", "a/" + part + "/b", "a/" + part}
}
