package field_test

import (
	"math"
	"testing"

	"montage/field"
)

func puts(t *testing.T, got, want string) {
	t.Helper()
	if got != want {
		t.Errorf("%q; want %q", got, want)
	}
}

func TestPut(t *testing.T) {
	puts(t, field.P16(513), "\x01\x02")
	puts(t, field.P32(0x04030201), "\x01\x02\x03\x04")
	puts(t, field.P64(0x8807060504030201), "\x01\x02\x03\x04\x05\x06\x07\x88")
}

func TestPutNought(t *testing.T) {
	puts(t, field.P16(0), "\x00\x00")
	puts(t, field.P32(0), "\x00\x00\x00\x00")
	puts(t, field.P64(0), "\x00\x00\x00\x00\x00\x00\x00\x00")
}

func TestPutTheGreatest(t *testing.T) {
	puts(t, field.P16(math.MaxUint16), "\xff\xff")
	puts(t, field.P32(math.MaxUint32), "\xff\xff\xff\xff")
	puts(t, field.P64(math.MaxUint64), "\xff\xff\xff\xff\xff\xff\xff\xff")
	puts(t, field.P64(1<<63), "\x00\x00\x00\x00\x00\x00\x00\x80")
}

func TestPutTakesTheLowestBytes(t *testing.T) {
	puts(t, field.P16(1<<16), "\x00\x00")
	puts(t, field.P16(0x12345), "\x45\x23")
	puts(t, field.P16(math.MaxInt), "\xff\xff")
	puts(t, field.P32(1<<32), "\x00\x00\x00\x00")
	puts(t, field.P32(0x1234567890), "\x90\x78\x56\x34")
	puts(t, field.P32(math.MaxInt), "\xff\xff\xff\xff")
}

func TestPutBelowNought(t *testing.T) {
	puts(t, field.P16(-1), "\xff\xff")
	puts(t, field.P16(-2), "\xfe\xff")
	puts(t, field.P16(-0x8001), "\xff\x7f")
	puts(t, field.P16(math.MinInt), "\x00\x00")
	puts(t, field.P32(-1), "\xff\xff\xff\xff")
	puts(t, field.P32(-2), "\xfe\xff\xff\xff")
	puts(t, field.P32(-0x80000001), "\xff\xff\xff\x7f")
	puts(t, field.P32(math.MinInt), "\x00\x00\x00\x00")
}
