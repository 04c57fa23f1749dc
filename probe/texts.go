// Package probe is for tests alone: it makes the texts that layers are asked about, and
// reads and writes UTF-8 bit by bit, so that tests don't lean on what the layers lean on.
package probe

// Texts answers all texts of at most n letters.
func Texts(n int, letters ...string) []string {
	all := []string{""}
	last := all
	for range n {
		var more []string
		for _, text := range last {
			for _, letter := range letters {
				more = append(more, text+letter)
			}
		}
		all = append(all, more...)
		last = more
	}
	return all
}

// Chance makes numbers that look like chance: the same ones each time, from where it
// starts on.
type Chance uint64

// Below answers a number from 0 up to, but not, n.
func (c *Chance) Below(n int) int {
	*c = *c*6364136223846793005 + 1442695040888963407
	return int(*c>>33) % n
}

// Text answers up to most letters by chance.
func (c *Chance) Text(most int, letters []string) string {
	s := ""
	for range c.Below(most + 1) {
		s += letters[c.Below(len(letters))]
	}
	return s
}
