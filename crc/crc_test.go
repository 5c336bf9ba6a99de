package crc

import (
	"bytes"
	"hash/crc32"
	"math"
	"math/bits"
	"testing"

	"flightdeck/api"
)

// noise returns n bytes that follow no simple rule.
func noise(n int, seed uint64) []byte {
	p := make([]byte, n)
	for i := range p {
		seed = seed*6364136223846793005 + 1442695040888963407
		p[i] = byte(seed >> 56)
	}
	return p
}

// P6.1: the register, bit by bit, as the chapter tells it.
func TestSum(t *testing.T) {
	for n := range 70 {
		p := noise(n, uint64(n))
		register := uint32(0xFFFFFFFF)
		for _, b := range p {
			register ^= uint32(b)
			for range 8 {
				out := register & 1
				register >>= 1
				if out == 1 {
					register ^= 0xEDB88320
				}
			}
		}
		if got := Sum(p); got != ^register || got != crc32.ChecksumIEEE(p) {
			t.Errorf("Sum(%x) = %08X", p, got)
		}
	}
	if Sum([]byte("123456789")) != 0xCBF43926 || Sum(nil) != 0 || Sum([]byte{0}) != 0xD202EF8D {
		t.Errorf("examples")
	}
}

// P6.2, P6.3
func TestUpdateCombine(t *testing.T) {
	p := noise(60, 3)
	for i := range len(p) + 1 {
		x, y := p[:i], p[i:]
		if Update(Sum(x), y) != Sum(p) {
			t.Errorf("Update at %d", i)
		}
		if Combine(Sum(x), Sum(y), len(y)) != Sum(p) {
			t.Errorf("Combine at %d", i)
		}
	}
	long := make([]byte, 100_000)
	if Combine(Sum(p), Sum(long), len(long)) != Sum(append(bytes.Clone(p), long...)) {
		t.Errorf("Combine of a long string")
	}
	if Combine(5, 7, -1) != 0 || Combine(5, 7, math.MinInt) != 0 || Combine(5, 7, 0) != 2 {
		t.Errorf("Combine without a length")
	}
	for _, a := range []uint32{0, 1, 0xFFFFFFFF, 0x12345678} { // defined for all a and b
		register := a
		for n := range 40 {
			if Combine(a, 0x55, n) != register^0x55 {
				t.Errorf("Combine(%x, 55, %d)", a, n)
			}
			for range 8 {
				register = register>>1 ^ 0xEDB88320*(register&1)
			}
		}
	}
	// The register comes back after 2^32 - 1 steps.
	if got := Combine(0x12345678, 0, (1<<32-1)*5); got != 0x12345678 {
		t.Errorf("Combine after the period: %x", got)
	}
}

// P6.4
func TestLinear(t *testing.T) {
	for n := range 20 {
		x, y, z := noise(n, 1), noise(n, 2), noise(n, 3)
		w := make([]byte, n)
		for i := range w {
			w[i] = x[i] ^ y[i] ^ z[i]
		}
		if Sum(w) != Sum(x)^Sum(y)^Sum(z) {
			t.Errorf("strings of %d bytes", n)
		}
	}
}

// P6.5
func TestSealOpen(t *testing.T) {
	for n := range 40 {
		p := noise(n, 9)
		keep := bytes.Clone(p)
		s := Seal(p[:n:n])
		sum := Sum(p)
		want := append(bytes.Clone(p), byte(sum), byte(sum>>8), byte(sum>>16), byte(sum>>24))
		if !bytes.Equal(s, want) || Sum(s) != Residue {
			t.Errorf("Seal(%x) = %x", p, s)
		}
		q, e := Open(s)
		if e != api.OK || !bytes.Equal(q, p) {
			t.Errorf("Open(%x) = %x, %v", s, q, e)
		}
		if n > 0 {
			q[0]++
			if !bytes.Equal(s, want) {
				t.Errorf("Open shares memory")
			}
			s[0]++
			if !bytes.Equal(p, keep) {
				t.Errorf("Seal shares memory")
			}
			if q, e := Open(s); e != api.ErrSum || len(q) != 0 {
				t.Errorf("Open of damage: %x, %v", q, e)
			}
		}
	}
	for n := range 4 {
		if q, e := Open(make([]byte, n)); e != api.ErrForm || len(q) != 0 {
			t.Errorf("Open of %d bytes: %x, %v", n, q, e)
		}
	}
	if q, e := Open(make([]byte, 4)); e != api.OK || len(q) != 0 {
		t.Errorf("Open of four zero bytes: %x, %v", q, e)
	}
	if _, e := Open([]byte{0, 0, 0, 1}); e != api.ErrSum {
		t.Errorf("Open of 00 00 00 01: %v", e)
	}
	spare := append(make([]byte, 0, 50), 1, 2, 3)
	Seal(spare)
	if spare[:4][3] != 0 {
		t.Errorf("Seal writes into the spare capacity")
	}
}

// P6.6
func TestFlip(t *testing.T) {
	p := noise(6, 4)
	keep := bytes.Clone(p)
	for bit := -40; bit < 60; bit++ {
		for _, pattern := range []uint32{0, 1, 2, 3, 1 << 31, 1<<31 | 1, 1 << 5, 0xFFFFFFFF, 0xF0000000} {
			q, e := Flip(p, bit, pattern)
			want := bytes.Clone(p)
			fits := true
			for k := range 32 {
				if pattern>>k&1 == 0 {
					continue
				}
				at := bit + k
				if at < 0 || at >= 48 {
					fits = false
					break
				}
				want[at/8] ^= 1 << (at % 8)
			}
			if fits && (e != api.OK || !bytes.Equal(q, want)) || !fits && (e != api.ErrRange || len(q) != 0) {
				t.Errorf("Flip(%d, %x) = %x, %v", bit, pattern, q, e)
			}
			if !bytes.Equal(p, keep) {
				t.Fatalf("Flip changes its argument")
			}
		}
	}
	for _, bit := range []int{math.MaxInt, math.MaxInt - 3, math.MinInt} {
		if _, e := Flip(p, bit, 0xFFFFFFFF); e != api.ErrRange {
			t.Errorf("Flip(%d): %v", bit, e)
		}
		if q, e := Flip(p, bit, 0); e != api.OK || !bytes.Equal(q, p) {
			t.Errorf("Flip(%d, 0): %v", bit, e)
		}
	}
	if q, e := Flip([]byte{0, 0}, 7, 3); e != api.OK || !bytes.Equal(q, []byte{0x80, 1}) {
		t.Errorf("Flip of 00 00: %x, %v", q, e)
	}
	if _, e := Flip([]byte{0, 0}, 15, 3); e != api.ErrRange {
		t.Errorf("Flip of the last bit: %v", e)
	}
}

// P6.7
func TestBursts(t *testing.T) {
	s := Seal(noise(20, 8))
	for bit := -31; bit < 8*len(s); bit++ {
		for _, pattern := range []uint32{1, 3, 1 << 31, 1<<31 | 1, 0xFFFFFFFF, 0x80000001, 0xDEADBEEF, bits.Reverse32(polynomial), polynomial} {
			q, e := Flip(s, bit, pattern)
			if e != api.OK {
				continue
			}
			if _, e := Open(q); e != api.ErrSum {
				t.Errorf("the burst %x at %d is not detected", pattern, bit)
			}
		}
	}
}

// P6.8
func TestTwoBits(t *testing.T) {
	s := Seal(make([]byte, 1020))
	for i := 0; i < 8*len(s); i += 997 {
		for j := i + 1; j < 8*len(s); j += 61 {
			p, _ := Flip(s, i, 1)
			q, _ := Flip(p, j, 1)
			if _, e := Open(q); e != api.ErrSum {
				t.Errorf("bits %d and %d", i, j)
			}
		}
	}
}

// P6.9
func TestStream(t *testing.T) {
	s := New()
	p := noise(100, 5)
	for i := range 11 {
		if s.Len() != 10*min(i, 10) || s.Sum() != Sum(p[:s.Len()]) || s.Sum() != Sum(p[:s.Len()]) {
			t.Errorf("after %d pieces: %d, %x", i, s.Len(), s.Sum())
		}
		if i < 10 {
			s.Write(p[10*i : 10*i+10])
			s.Write(nil)
		}
	}
	s.Reset()
	if s.Len() != 0 || s.Sum() != 0 {
		t.Errorf("after Reset: %d, %x", s.Len(), s.Sum())
	}
	s.Write([]byte("123456789"))
	if s.Len() != 9 || s.Sum() != 0xCBF43926 {
		t.Errorf("behind Reset: %d, %x", s.Len(), s.Sum())
	}
	var none *Stream
	none.Write(p)
	none.Reset()
	if none.Sum() != 0 || none.Len() != 0 {
		t.Errorf("nil stream")
	}
}
