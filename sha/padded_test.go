package sha

import (
	"encoding/binary"
	"testing"
)

// Texts so long that their bits outgrow 32 bits take too long to make: what is put
// behind them is asked for alone.
func TestPaddedLong(t *testing.T) {
	for _, n := range []uint64{0, 1 << 28, 1<<29 - 64, 1 << 29, 1<<29 + 64, 1 << 30, 1<<31 - 64} {
		got := padded("", n)
		if len(got) != 64 || got[0] != 128 {
			t.Fatalf("behind %d bytes: %x", n, got)
		}
		if bits := binary.BigEndian.Uint64([]byte(got[56:])); bits != 8*n {
			t.Errorf("behind %d bytes: %d bits", n, bits)
		}
	}
}
