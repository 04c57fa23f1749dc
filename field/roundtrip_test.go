package field_test

import (
	"math"
	"testing"

	"montage/api"
	"montage/field"
)

// Numbers of up to so many bits: each power of two, what is beside it, and some that are made of all bytes.
func numbers(bits int) []uint64 {
	list := []uint64{0}
	mixed := uint64(0x9e3779b97f4a7c15)
	for i := range bits {
		list = append(list, 1<<i-1, 1<<i, 1<<i+1, mixed>>(64-bits))
		mixed = mixed*6364136223846793005 + 1442695040888963407
	}
	return append(list, math.MaxUint64>>(64-bits))
}

func TestNumbersOf16BitsAreReadAgain(t *testing.T) {
	for n := range 1 << 16 {
		if got, err := field.U16(field.P16(n), 0); got != n || err != api.OK {
			t.Fatal(n, got, err)
		}
	}
}

func TestNumbersOf32BitsAreReadAgain(t *testing.T) {
	for _, n := range numbers(32) {
		if got, err := field.U32(field.P32(int(n)), 0); got != int(n) || err != api.OK {
			t.Fatal(n, got, err)
		}
	}
}

func TestNumbersOf64BitsAreReadAgain(t *testing.T) {
	for _, n := range numbers(64) {
		if got, err := field.U64(field.P64(n), 0); got != n || err != api.OK {
			t.Fatal(n, got, err)
		}
	}
}

func TestNumbersBesideOneAnotherAreReadAgain(t *testing.T) {
	for _, n := range numbers(64) {
		a, b := int(n&math.MaxUint16), int(n&math.MaxUint32)
		s := field.P16(a) + field.P32(b) + field.P64(n) + "rest"
		if got, err := field.U16(s, 0); got != a || err != api.OK {
			t.Fatal(n, got, err)
		}
		if got, err := field.U32(s, 2); got != b || err != api.OK {
			t.Fatal(n, got, err)
		}
		if got, err := field.U64(s, 6); got != n || err != api.OK {
			t.Fatal(n, got, err)
		}
		if got, err := field.Cut(s, 14, 4); got != "rest" || err != api.OK {
			t.Fatal(n, got, err)
		}
	}
}

func TestBytesAreWrittenAgain(t *testing.T) {
	s := distinct(8)
	a, _ := field.U16(s, 0)
	b, _ := field.U32(s, 0)
	c, _ := field.U64(s, 0)
	puts(t, field.P16(a), s[:2])
	puts(t, field.P32(b), s[:4])
	puts(t, field.P64(c), s)
}
