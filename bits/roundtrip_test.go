package bits_test

import (
	"math/rand"
	"testing"

	"montage/api"
	"montage/bits"
)

// lowOf keeps the lowest n bits of v.
func lowOf(v uint32, n int) uint32 {
	return uint32(uint64(v) & (1<<n - 1))
}

func TestPutIsReadAgainByEachWidth(t *testing.T) {
	values := []uint32{0, 1, 2, 0x55555555, 0xaaaaaaaa, 0x80000000, 0x12345678, 0xffffffff}
	for n := range 33 {
		for skip := range 8 {
			w := bits.NewWriter()
			w.Put(0xff, skip)
			for _, v := range values {
				w.Put(v, n)
			}
			r := bits.NewReader(w.Text())
			wantBits(t, r, skip, 1<<skip-1)
			for _, v := range values {
				wantBits(t, r, n, lowOf(v, n))
			}
			if r.At() != w.Len() || r.Err() != api.OK {
				t.Errorf("At %d, Err %d; Len %d", r.At(), r.Err(), w.Len())
			}
		}
	}
}

// TestPutIsReadAgain mixes widths, alignment and whole bytes, from seeds that are the same each time.
func TestPutIsReadAgain(t *testing.T) {
	type step struct {
		kind, n int
		v       uint32
		text    string
	}
	for seed := range int64(300) {
		rnd := rand.New(rand.NewSource(seed))
		w := bits.NewWriter()
		var steps []step
		for range 1 + rnd.Intn(60) {
			s := step{kind: rnd.Intn(8), n: rnd.Intn(33), v: rnd.Uint32()}
			switch s.kind {
			case 0:
				w.Align()
			case 1:
				s.text = string([]byte{byte(s.v), byte(s.v >> 8), byte(s.v >> 16)})[:s.n%4]
				w.Write(s.text)
			default:
				w.Put(s.v, s.n)
			}
			steps = append(steps, s)
		}
		r := bits.NewReader(w.Text())
		for _, s := range steps {
			switch s.kind {
			case 0:
				r.Align()
			case 1:
				wantBytes(t, r, len(s.text), s.text)
			default:
				wantBits(t, r, s.n, lowOf(s.v, s.n))
			}
		}
		left := 8*len(w.Text()) - w.Len()
		stands(t, r, w.Len(), left, api.OK)
		wantBits(t, r, left, 0)
		stands(t, r, 8*len(w.Text()), 0, api.OK)
	}
}
