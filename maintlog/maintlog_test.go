package maintlog

import (
	"bytes"
	"math"
	"slices"
	"testing"

	"flightdeck/api"
	"flightdeck/crc"
)

func memory(t *testing.T, slots int) *Memory {
	m, e := NewMemory(slots)
	if e != api.OK {
		t.Fatal(e)
	}
	return m
}

func open(t *testing.T, m *Memory) *Log {
	l, e := Open(m)
	if e != api.OK {
		t.Fatal(e)
	}
	return l
}

// P56.1
func TestMemory(t *testing.T) {
	for _, slots := range []int{1, 0, -1, 65, math.MaxInt, math.MinInt} {
		if m, e := NewMemory(slots); m != nil || e != api.ErrArg {
			t.Errorf("%d slots: %v", slots, e)
		}
	}
	for _, slots := range []int{2, 64} {
		m := memory(t, slots)
		if m.Slots() != slots || !bytes.Equal(m.Bytes(), make([]byte, 30*slots)) || m.Off() {
			t.Errorf("%d slots: %d", slots, m.Slots())
		}
	}
	m := memory(t, 2)
	m.Bytes()[0] = 1
	if e := m.Flip(7, 3); e != api.OK || m.Bytes()[0] != 128 || m.Bytes()[1] != 1 {
		t.Errorf("Flip: %v", e)
	}
	c := m.Clone()
	if e := m.Flip(479, 3); e != api.ErrRange || !bytes.Equal(m.Bytes(), c.Bytes()) {
		t.Errorf("Flip: %v", e)
	}
	if e := m.Flip(-1, 2); e != api.OK || c.Bytes()[0] != 128 || m.Bytes()[0] != 129 {
		t.Errorf("Clone, or Flip: %v", e)
	}
	var none *Memory
	none.Arm(1)
	none.On()
	if none.Slots() != 0 || none.Off() || none.Bytes() != nil || none.Clone() != nil || none.Flip(0, 0) != api.ErrArg {
		t.Errorf("a nil memory")
	}
}

// P56.1: the power
func TestPower(t *testing.T) {
	for _, n := range []int{0, -1, math.MinInt} {
		m := memory(t, 2)
		l := open(t, m)
		m.Arm(n)
		if m.Off() {
			t.Errorf("Arm(%d): the power is off at once", n)
		}
		if _, e := l.Append(1, 1, 1); e != api.ErrOff || !m.Off() || !bytes.Equal(m.Bytes(), make([]byte, 60)) {
			t.Errorf("Arm(%d): %v", n, e)
		}
		if e := m.Flip(0, 1); e != api.OK || m.Bytes()[0] != 1 {
			t.Errorf("Flip without power: %v", e)
		}
		if c := m.Clone(); !c.Off() {
			t.Errorf("a copy has power")
		}
		m.On()
		if m.Off() {
			t.Errorf("On")
		}
	}
	m := memory(t, 3)
	m.Arm(5)
	m.Arm(31)
	l := open(t, m)
	if _, e := l.Append(1, 1, 1); e != api.OK || m.Off() {
		t.Errorf("31 bytes: %v", e)
	}
	c := m.Clone()
	if e := open(t, c).Clear(); e != api.ErrOff || !c.Off() || m.Off() {
		t.Errorf("a copy with the same Arm: %v", e)
	}
	m.On() // forgets the Arm
	if _, e := l.Append(1, 1, 1); e != api.OK {
		t.Errorf("after On: %v", e)
	}
	m.Arm(math.MaxInt)
	if _, e := l.Append(1, 1, 1); e != api.OK {
		t.Errorf("much later: %v", e)
	}
}

// slot returns a slot with a fault.
func slot(mark byte, f api.Fault) []byte {
	p := []byte{}
	for _, v := range []uint64{f.Number, uint64(f.Tick), uint64(f.Code)} {
		for i := range 8 {
			p = append(p, byte(v>>(8*i)))
		}
	}
	return append([]byte{mark}, crc.Seal(append(p, f.Phase))...)
}

// P56.2, P56.3
func TestSlots(t *testing.T) {
	m := memory(t, 4)
	l := open(t, m)
	if n, e := l.Append(-2, 3, 1<<40); n != 1 || e != api.OK || !bytes.Equal(m.Bytes()[30:60], slot(0xC3, api.Fault{Code: -2, Phase: 3, Tick: 1 << 40, Number: 1})) || !bytes.Equal(m.Bytes()[60:], make([]byte, 60)) {
		t.Errorf("the slot: %v, %v", m.Bytes(), e)
	}
	good := api.Fault{Code: 5, Phase: 8, Tick: -9, Number: 10}
	for i, c := range []struct {
		index int
		p     []byte
		want  bool
	}{
		{2, slot(0xC3, good), true}, {2, slot(0xC2, good), false}, {2, slot(0, good), false}, {1, slot(0xC3, good), false}, {2, slot(0xC3, api.Fault{Phase: 0, Number: 10}), false}, {2, slot(0xC3, api.Fault{Phase: 9, Number: 10}), false}, {0, slot(0xC3, api.Fault{Phase: 1, Number: 0}), false}, {0, slot(0xC3, api.Fault{Phase: 1, Number: 1 << 62}), true}, {1, slot(0xC3, api.Fault{Phase: 1, Number: 1<<62 + 1}), false}, {3, slot(0xC3, api.Fault{Phase: 1, Number: math.MaxUint64}), false},
	} {
		m := memory(t, 4)
		copy(m.bytes[30*c.index:], c.p)
		before := m.Bytes()
		l := open(t, m)
		if c.want != (len(l.Faults()) == 1) || !c.want && l.Next() != 1 || !bytes.Equal(m.Bytes(), before) {
			t.Errorf("case %d: %v", i, l.Faults())
		}
		if c.want && !bytes.Equal(slot(0xC3, l.Faults()[0]), c.p) || c.want && l.Next() != l.Faults()[0].Number+1 {
			t.Errorf("case %d: %v", i, l.Faults())
		}
		c.p[5] ^= 4
		copy(m.bytes[30*c.index:], c.p)
		if l := open(t, m); len(l.Faults()) != 0 {
			t.Errorf("case %d: damaged: %v", i, l.Faults())
		}
	}
	if l, e := Open(nil); l != nil || e != api.ErrArg {
		t.Errorf("Open(nil): %v", e)
	}
	m.Arm(0)
	l.Append(1, 1, 1)
	if l, e := Open(m); l != nil || e != api.ErrOff {
		t.Errorf("Open without power: %v", e)
	}
}

// P56.3, P56.4
func TestAppend(t *testing.T) {
	m := memory(t, 2)
	l := open(t, m)
	for i, f := range []api.Fault{{Code: 7, Phase: 3, Tick: 100}, {Code: 8, Phase: 4, Tick: 200}, {Code: 9, Phase: 4, Tick: 300}} {
		if n, e := l.Append(f.Code, f.Phase, f.Tick); n != uint64(i+1) || e != api.OK || l.Next() != n+1 {
			t.Errorf("Append: %d, %v", n, e)
		}
	}
	want := []api.Fault{{Code: 8, Phase: 4, Tick: 200, Number: 2}, {Code: 9, Phase: 4, Tick: 300, Number: 3}}
	if got := l.Faults(); !slices.Equal(got, want) || !slices.Equal(open(t, m).Faults(), want) || Text(got) != "2 200 8 4\n3 300 9 4\n" {
		t.Errorf("%v", got)
	}
	before := m.Bytes()
	for _, phase := range []byte{0, 9, 255} {
		if n, e := l.Append(1, phase, 1); n != 0 || e != api.ErrRange {
			t.Errorf("phase %d: %v", phase, e)
		}
	}
	if !bytes.Equal(m.Bytes(), before) {
		t.Errorf("something was written")
	}
	m.Flip(8*33, 1)
	if !slices.Equal(l.Faults(), want) || !slices.Equal(open(t, m).Faults(), want[:1]) {
		t.Errorf("a flip: %v", l.Faults())
	}
	copy(m.bytes, slot(0xC3, api.Fault{Phase: 1, Number: 1 << 62}))
	l = open(t, m)
	if n, e := l.Append(1, 1, 1); n != 0 || e != api.ErrLimit || l.Next() != 1<<62+1 {
		t.Errorf("no number: %v", e)
	}
	if n, e := l.Append(1, 0, 1); n != 0 || e != api.ErrRange {
		t.Errorf("no number, and no phase: %v", e)
	}
}

// P56.3: a log is broken by a failure of the power.
func TestBroken(t *testing.T) {
	for _, n := range []int{0, 1, 17, 30} {
		m := memory(t, 2)
		l := open(t, m)
		l.Append(7, 3, 100)
		l.Append(8, 4, 200)
		want := l.Faults()
		m.Arm(n)
		for range 3 {
			if k, e := l.Append(9, 4, 300); k != 0 || e != api.ErrOff {
				t.Errorf("Arm(%d): %d, %v", n, k, e)
			}
			m.On()
		}
		before := m.Bytes()
		if e := l.Clear(); e != api.ErrOff || !slices.Equal(l.Faults(), want) || l.Next() != 3 || !bytes.Equal(m.Bytes(), before) {
			t.Errorf("Arm(%d): Clear: %v", n, e)
		}
		if _, e := l.Append(9, 0, 300); e != api.ErrRange {
			t.Errorf("Arm(%d): %v", n, e)
		}
	}
	m := memory(t, 2)
	copy(m.bytes, slot(0xC3, api.Fault{Phase: 1, Number: 1 << 62}))
	l := open(t, m)
	m.Arm(0)
	if e := l.Clear(); e != api.ErrOff {
		t.Errorf("Clear: %v", e)
	}
	if _, e := l.Append(1, 1, 1); e != api.ErrLimit {
		t.Errorf("broken, and no number: %v", e)
	}
}

// P56.5
func TestClear(t *testing.T) {
	m := memory(t, 3)
	l := open(t, m)
	for range 4 {
		l.Append(7, 3, 100)
	}
	held := m.Bytes()
	copied := m.Clone()
	if e := l.Clear(); e != api.OK || len(l.Faults()) != 0 || l.Next() != 5 {
		t.Errorf("Clear: %v", e)
	}
	held[0], held[30], held[60] = 0, 0, 0
	if !bytes.Equal(m.Bytes(), held) || open(t, m).Next() != 1 {
		t.Errorf("what it left")
	}
	if n, e := l.Append(7, 3, 100); n != 5 || e != api.OK {
		t.Errorf("Append: %d, %v", n, e)
	}
	l = open(t, copied)
	want := l.Faults()
	copied.Arm(2)
	if e := l.Clear(); e != api.ErrOff || !slices.Equal(l.Faults(), want) || l.Next() != 5 {
		t.Errorf("Clear: %v", e)
	}
	copied.On()
	if b := copied.Bytes(); b[0] != 0 || b[30] != 0 || b[60] != 0xC3 {
		t.Errorf("two bytes are written: %v", b)
	}
	if _, e := l.Append(1, 1, 1); e != api.ErrOff {
		t.Errorf("not broken: %v", e)
	}
	for _, l := range []*Log{nil, {}} {
		if e := l.Clear(); e != api.ErrArg || len(l.Faults()) != 0 || l.Next() != 0 {
			t.Errorf("a nil log: %v", e)
		}
		if n, e := l.Append(1, 0, 1); n != 0 || e != api.ErrArg {
			t.Errorf("a nil log: %v", e)
		}
	}
}

// P56.6
func TestFailures(t *testing.T) {
	for _, slots := range []int{2, 3, 5} {
		for appended := range 8 {
			for n := range 33 {
				m := memory(t, slots)
				l := open(t, m)
				for i := range appended {
					l.Append(int64(i), byte(1+i), 10)
				}
				want := l.Faults()
				m.Arm(n)
				_, e := l.Append(99, 8, 11)
				if (e == api.OK) != (n >= 31) {
					t.Fatalf("%d slots, %d bytes: %v", slots, n, e)
				}
				m.On()
				if n > 0 && len(want) == slots {
					want = want[1:]
				}
				if n >= 31 {
					want = append(want, api.Fault{Code: 99, Phase: 8, Tick: 11, Number: uint64(appended + 1)})
				}
				l = open(t, m)
				if got := l.Faults(); !slices.Equal(got, want) {
					t.Fatalf("%d slots, %d bytes: %v in place of %v", slots, n, got, want)
				}
				if k, e := l.Append(5, 5, 5); e != api.OK || len(want) > 0 && k != want[len(want)-1].Number+1 {
					t.Fatalf("%d slots, %d bytes: then %d, %v", slots, n, k, e)
				}
			}
		}
	}
}

// P56.7
func TestBursts(t *testing.T) {
	m := memory(t, 3)
	l := open(t, m)
	for i := range 3 {
		l.Append(int64(i), 2, 10)
	}
	x := uint32(5)
	for bit := 8; bit < 240; bit++ {
		for range 10 {
			x = x*1664525 + 1013904223
			pattern := x
			if over := bit + 32 - 240; over > 0 {
				pattern &= math.MaxUint32 >> over
			}
			if pattern == 0 {
				continue
			}
			c := m.Clone()
			if e := c.Flip(240+bit, pattern); e != api.OK {
				t.Fatal(e)
			}
			if got := open(t, c).Faults(); len(got) != 2 || got[0].Number != 2 || got[1].Number != 3 {
				t.Fatalf("bit %d, pattern %x: %v", bit, pattern, got)
			}
		}
	}
}

// P56.8
func TestSummaries(t *testing.T) {
	l := []api.Fault{{Code: 7, Phase: 3, Tick: 100}, {Code: -2, Phase: 15, Tick: 300}, {Code: 7, Phase: 0, Tick: 50}, {Code: 9, Phase: 16, Tick: 1}, {Code: 7, Phase: 3, Tick: 70}, {Code: 9, Phase: 255, Tick: 2}}
	want := []Summary{{-2, 1, 1 << 15, 300, 300}, {7, 3, 1<<3 | 1, 100, 70}, {9, 2, 0, 1, 2}}
	if got := Summaries(l); !slices.Equal(got, want) {
		t.Errorf("%v", got)
	}
	if len(Summaries(nil)) != 0 {
		t.Errorf("of nothing")
	}
}

// P56.9
func TestText(t *testing.T) {
	l := []api.Fault{{Code: math.MinInt64, Phase: 255, Tick: -1, Number: math.MaxUint64}, {}}
	if got := Text(l); got != "18446744073709551615 -1 -9223372036854775808 255\n0 0 0 0\n" {
		t.Errorf("%q", got)
	}
	if Text(nil) != "" {
		t.Errorf("of nothing")
	}
}
