package crc_test

import (
	"testing"

	"montage/crc"
)

func hold(t *testing.T, x *crc.Sum, s string) {
	t.Helper()
	if got, want := x.Value(), byDefinition(s); got != want {
		t.Fatalf("of %d bytes: %08X, not %08X", len(s), got, want)
	}
	if got := x.Len(); got != len(s) {
		t.Fatalf("of %d bytes: Len %d", len(s), got)
	}
}

func TestSumNew(t *testing.T) {
	x := crc.New()
	if x == nil {
		t.Fatal("nil")
	}
	hold(t, x, "")
	hold(t, x.Add("123456789"), "123456789")
	if got := x.Value(); got != 0xCBF43926 {
		t.Errorf("%08X", got)
	}
}

func TestSumAtOnce(t *testing.T) {
	for n := range 300 {
		s := mixed(n)
		hold(t, crc.New().Add(s), s)
	}
}

func TestSumAddAnswersItself(t *testing.T) {
	x := crc.New()
	for _, s := range []string{"", "a", "", "more"} {
		if x.Add(s) != x {
			t.Errorf("Add(%q) answers another one", s)
		}
	}
	hold(t, x, "amore")
}

func TestSumTwoParts(t *testing.T) {
	for _, s := range []string{"", "1", "123456789", mixed(200)} {
		for at := range len(s) + 1 {
			x := crc.New()
			hold(t, x.Add(s[:at]), s[:at])
			hold(t, x.Add(s[at:]), s)
		}
	}
}

func TestSumThreePartsAndEmptyOnes(t *testing.T) {
	s := mixed(24)
	for i := range len(s) + 1 {
		for k := i; k <= len(s); k++ {
			x := crc.New().Add("").Add(s[:i]).Add("").Add(s[i:k]).Add("").Add("").Add(s[k:]).Add("")
			hold(t, x, s)
		}
	}
}

func TestSumByteByByte(t *testing.T) {
	s := mixed(500)
	x := crc.New()
	for i := range len(s) {
		hold(t, x, s[:i])
		x.Add(s[i : i+1])
	}
	hold(t, x, s)
}

// Asking changes nothing, and bytes may be added after it.
func TestSumAskedTwice(t *testing.T) {
	x := crc.New().Add("one")
	for range 3 {
		hold(t, x, "one")
	}
	hold(t, x.Add(" more"), "one more")
}

func TestSumsStandAlone(t *testing.T) {
	x, y := crc.New(), crc.New()
	if x == y {
		t.Fatal("New answers the same one twice")
	}
	x.Add("first")
	hold(t, y, "")
	y.Add("second one")
	hold(t, x, "first")
	hold(t, y, "second one")
}

func TestSumsJoined(t *testing.T) {
	x, y := crc.New().Add("one text, "), crc.New().Add("and ").Add("another")
	got := crc.Join(x.Value(), y.Value(), y.Len())
	if want := crc.Of("one text, and another"); got != want {
		t.Errorf("%08X, not %08X", got, want)
	}
}

func TestNilSum(t *testing.T) {
	var x *crc.Sum
	for _, s := range []string{"", "a", mixed(100)} {
		if got := x.Add(s); got != nil {
			t.Errorf("Add(%q): %v", s, got)
		}
	}
	if x.Add("a").Add("b") != nil {
		t.Error("Add, twice")
	}
	if got := x.Value(); got != 0 {
		t.Errorf("Value: %08X", got)
	}
	if got := x.Len(); got != 0 {
		t.Errorf("Len: %d", got)
	}
}
