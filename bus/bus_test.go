package bus

import (
	"bytes"
	"math"
	"slices"
	"testing"

	"flightdeck/api"
	"flightdeck/crc"
)

func same(a, b api.Frame) bool {
	return a.Label == b.Label && a.From == b.From && a.Cycle == b.Cycle && bytes.Equal(a.Payload, b.Payload)
}

// P52.1, P52.2
func TestEncode(t *testing.T) {
	for i, f := range []api.Frame{{}, {Label: 1, From: 2, Cycle: 258, Payload: []byte("A")}, {Label: 255, From: 255, Cycle: -1, Payload: make([]byte, api.MaxPayload)}, {Cycle: math.MinInt64}, {Cycle: math.MaxInt64, Payload: bytes.Repeat([]byte{7}, 300)}} {
		p, e := Encode(f)
		if len(p) != 16+len(f.Payload) || e != api.OK {
			t.Errorf("case %d: %d bytes, %v", i, len(p), e)
		}
		if got, e := Decode(p); !same(got, f) || e != api.OK {
			t.Errorf("case %d: %v, %v", i, got, e)
		}
	}
	if p, e := Encode(api.Frame{Payload: make([]byte, api.MaxPayload+1)}); len(p) != 0 || e != api.ErrLimit {
		t.Errorf("a long payload: %v", e)
	}
	p, _ := Encode(api.Frame{Label: 1, From: 2, Cycle: 258, Payload: []byte("A")})
	if want := crc.Seal([]byte{1, 2, 2, 1, 0, 0, 0, 0, 0, 0, 1, 0, 'A'}); !bytes.Equal(p, want) {
		t.Errorf("% x", p)
	}
	p, _ = Encode(api.Frame{Cycle: -2, Payload: make([]byte, 513)})
	if want := []byte{0, 0, 254, 255, 255, 255, 255, 255, 255, 255, 1, 2}; !bytes.Equal(p[:12], want) {
		t.Errorf("% x", p[:12])
	}
}

// P52.2
func TestDecode(t *testing.T) {
	head := func(n int) []byte { return []byte{1, 2, 3, 0, 0, 0, 0, 0, 0, 0, byte(n), byte(n >> 8)} }
	for i, c := range []struct {
		p    []byte
		want api.Errno
	}{
		{nil, api.ErrForm}, {make([]byte, 3), api.ErrForm}, {make([]byte, 4), api.ErrForm}, {make([]byte, 16), api.ErrSum}, {[]byte{0, 0, 0, 1}, api.ErrSum},
		{crc.Seal(head(0)), api.OK}, {crc.Seal(head(0)[:11]), api.ErrForm}, {crc.Seal(head(1)), api.ErrForm}, {crc.Seal(append(head(0), 9)), api.ErrForm}, {crc.Seal(append(head(1), 9)), api.OK}, {crc.Seal(append(head(2), 9)), api.ErrForm},
		{crc.Seal(append(head(1000), make([]byte, 1000)...)), api.OK}, {crc.Seal(append(head(1001), make([]byte, 1001)...)), api.ErrForm}, {crc.Seal(append(head(999), make([]byte, 1000)...)), api.ErrForm},
	} {
		f, e := Decode(c.p)
		if e != c.want || e != api.OK && !same(f, api.Frame{}) {
			t.Errorf("case %d: %v", i, e)
		}
		if again, _ := Encode(f); e == api.OK && !bytes.Equal(again, c.p) {
			t.Errorf("case %d: not what Encode returns", i)
		}
	}
	p, _ := Encode(api.Frame{Payload: []byte("ABC")})
	f, _ := Decode(p)
	f.Payload[0] = 'X'
	if g, _ := Decode(p); string(g.Payload) != "ABC" {
		t.Errorf("the payload shares memory")
	}
}

// P52.3
func TestCarry(t *testing.T) {
	for i, c := range []struct {
		p    []byte
		f    api.Fate
		want []byte
	}{
		{[]byte{1, 2}, api.Fate{}, []byte{1, 2}}, {[]byte{1, 2}, api.Fate{Bit: math.MaxInt, Pattern: math.MaxUint32}, []byte{1, 2}}, {[]byte{1, 2}, api.Fate{Bit: math.MinInt, Pattern: math.MaxUint32}, []byte{1, 2}},
		{[]byte{0, 0}, api.Fate{Bit: 7, Pattern: 3}, []byte{0x80, 1}}, {[]byte{0, 0}, api.Fate{Bit: 15, Pattern: 3}, []byte{0, 0x80}}, {[]byte{0, 0}, api.Fate{Bit: -1, Pattern: 3}, []byte{1, 0}}, {[]byte{0, 0}, api.Fate{Bit: -31, Pattern: 1 << 31}, []byte{1, 0}}, {[]byte{0, 0}, api.Fate{Bit: 16, Pattern: 5}, []byte{0, 0}}, {nil, api.Fate{Pattern: 5}, nil},
	} {
		before := slices.Clone(c.p)
		got, ok := Carry(c.p, c.f)
		if !bytes.Equal(got, c.want) || !ok || !bytes.Equal(c.p, before) {
			t.Errorf("case %d: %v", i, got)
		}
	}
	if got, ok := Carry([]byte{1, 2}, api.Fate{Lost: true}); len(got) != 0 || ok {
		t.Errorf("lost: %v", got)
	}
	p := []byte{1, 2}
	got, _ := Carry(p, api.Fate{})
	got[0] = 9
	if p[0] != 1 {
		t.Errorf("the bytes share memory")
	}
}

// P52.4, P52.5
func TestReceive(t *testing.T) {
	f := api.Frame{Label: 3, From: 1, Cycle: 77, Payload: []byte("HELLO")}
	p, _ := Encode(f)
	if got, ok := Receive(p, api.Fate{}, 3, 1, 77); !same(got, f) || !ok {
		t.Errorf("%v, %v", got, ok)
	}
	if got, ok := Receive(p, api.Fate{Bit: 8 * len(p), Pattern: 5}, 3, 1, 77); !same(got, f) || !ok {
		t.Errorf("damage behind the frame: %v, %v", got, ok)
	}
	for i, c := range []struct {
		p           []byte
		f           api.Fate
		label, from byte
		cycle       int64
	}{{p, api.Fate{Lost: true}, 3, 1, 77}, {p, api.Fate{}, 4, 1, 77}, {p, api.Fate{}, 3, 0, 77}, {p, api.Fate{}, 3, 1, 76}, {p, api.Fate{Pattern: 1}, 2, 1, 77}, {nil, api.Fate{}, 0, 0, 0}, {crc.Seal(make([]byte, 11)), api.Fate{}, 0, 0, 0}} {
		if got, ok := Receive(c.p, c.f, c.label, c.from, c.cycle); ok || !same(got, api.Frame{}) {
			t.Errorf("case %d: %v", i, got)
		}
	}
	x := uint32(5)
	for bit := -33; bit < 8*len(p)+2; bit++ {
		for range 20 {
			x = x*1664525 + 1013904223
			got, ok := Receive(p, api.Fate{Bit: bit, Pattern: x}, 3, 1, 77)
			arrived, _ := Carry(p, api.Fate{Bit: bit, Pattern: x})
			if ok != bytes.Equal(arrived, p) || ok && !same(got, f) {
				t.Fatalf("received in spite of the damage %d, %x", bit, x)
			}
		}
	}
}

// bad has lists of messages with errors.
func bad() map[api.Errno][][]Message {
	long := make([]Message, 33)
	for i := range long {
		long[i] = Message{byte(i), 1, 1}
	}
	return map[api.Errno][][]Message{
		api.ErrLimit:  {long, make([]Message, 40)},
		api.ErrArg:    {{{1, 0, 1}}, {{1, 3, 1}}, {{1, 33, 1}}, {{1, 64, 1}}, {{1, -1, 1}}, {{1, math.MinInt, 1}}, {{1, 1, 0}}, {{1, 1, 1001}}, {{1, 1, -5}}, {{1, 1, 1}, {1, 1, 0}}, {{1, 1, 0}, {2, 1, 1}, {2, 1, 1}}},
		api.ErrExists: {{{1, 1, 1}, {1, 2, 1}}, {{1, 1, 1}, {2, 1, 1}, {1, 2, 1}, {3, 0, 0}}},
	}
}

// P52.6
func TestSchedule(t *testing.T) {
	l := []Message{{1, 1, 3}, {2, 2, 4}, {3, 2, 5}}
	for _, c := range []struct {
		l        []Message
		capacity int
		want     []Slot
		e        api.Errno
	}{
		{l, 8, []Slot{{1, 0}, {2, 1}, {3, 0}}, api.OK}, {l, 7, nil, api.ErrFull}, {l, 0, nil, api.ErrArg}, {l, math.MinInt, nil, api.ErrArg}, {nil, 1, nil, api.OK}, {nil, 0, nil, api.ErrArg}, {l, math.MaxInt, []Slot{{1, 0}, {2, 0}, {3, 0}}, api.OK},
		{[]Message{{9, 4, 5}, {8, 4, 5}, {7, 4, 5}, {6, 4, 5}}, 5, []Slot{{9, 3}, {8, 2}, {7, 1}, {6, 0}}, api.OK}, {[]Message{{9, 4, 5}, {8, 4, 5}, {7, 4, 5}, {6, 4, 5}, {5, 32, 1}}, 5, nil, api.ErrFull},
		{[]Message{{1, 32, 1}, {2, 2, 5}, {3, 16, 5}, {4, 4, 1}}, 6, []Slot{{1, 1}, {2, 0}, {3, 1}, {4, 0}}, api.OK}, {[]Message{{1, 1, 1001}}, 0, nil, api.ErrArg}, {[]Message{{1, 1, 1000}}, 999, nil, api.ErrFull},
	} {
		before := slices.Clone(c.l)
		if got, e := Schedule(c.l, c.capacity); !slices.Equal(got, c.want) || e != c.e || !slices.Equal(before, c.l) {
			t.Errorf("Schedule(%v, %d) = %v, %v", c.l, c.capacity, got, e)
		}
	}
	for want, lists := range bad() {
		for _, l := range lists {
			if got, e := Schedule(l, 0); len(got) > 0 || e != want {
				t.Errorf("Schedule(%v) = %v, %v", l, got, e)
			}
		}
	}
}

// P52.7
func TestLoad(t *testing.T) {
	l := []Message{{1, 8, 3}, {2, 32, 4}, {3, 1, 5}}
	slots := []Slot{{1, 7}, {2, 31}, {3, 0}}
	want := slices.Repeat([]int{5}, 32)
	want[7], want[15], want[23], want[31] = 8, 8, 8, 12
	if got, e := Load(l, slots); !slices.Equal(got, want) || e != api.OK {
		t.Errorf("%v, %v", got, e)
	}
	if got, e := Load(nil, nil); !slices.Equal(got, make([]int, 32)) || e != api.OK {
		t.Errorf("no messages: %v, %v", got, e)
	}
	for capacity, e := range map[int]api.Errno{12: api.OK, math.MaxInt: api.OK, 11: api.ErrFull, 1: api.ErrFull, 0: api.ErrArg, -1: api.ErrArg} {
		if f := Verify(l, slots, capacity); f != e {
			t.Errorf("Verify with %d: %v", capacity, f)
		}
	}
	for i, c := range []struct {
		slots []Slot
		want  api.Errno
	}{{slots[:2], api.ErrArg}, {nil, api.ErrArg}, {append(slices.Clone(slots), Slot{4, 0}), api.ErrArg}, {[]Slot{{1, 7}, {3, 0}, {2, 31}}, api.ErrArg}, {[]Slot{{1, 8}, {2, 31}, {3, 0}}, api.ErrRange}, {[]Slot{{1, 8}, {2, 31}, {4, 0}}, api.ErrArg}, {[]Slot{{1, -1}, {2, 31}, {3, 0}}, api.ErrRange}, {[]Slot{{1, 0}, {2, 32}, {3, 0}}, api.ErrRange}, {[]Slot{{1, 0}, {2, 0}, {3, 1}}, api.ErrRange}, {[]Slot{{1, 0}, {2, math.MinInt}, {3, 0}}, api.ErrRange}} {
		if got, e := Load(l, c.slots); len(got) > 0 || e != c.want {
			t.Errorf("case %d: %v, %v", i, got, e)
		}
		if e := Verify(l, c.slots, 0); e != c.want {
			t.Errorf("case %d: Verify: %v", i, e)
		}
	}
	for want, lists := range bad() {
		for _, l := range lists {
			if got, e := Load(l, nil); len(got) > 0 || e != want {
				t.Errorf("Load(%v) = %v, %v", l, got, e)
			}
			if e := Verify(l, nil, 0); e != want {
				t.Errorf("Verify(%v): %v", l, e)
			}
		}
	}
}

// P52.6, P52.8
func TestSchedules(t *testing.T) {
	x := uint32(3)
	next := func(n int) int {
		x = x*1664525 + 1013904223
		return int(x>>8) % n
	}
	full := 0
	for range 2000 {
		var l []Message
		for i := range next(9) {
			l = append(l, Message{byte(200 - 7*i), 1 << next(6), 1 + next(9)})
		}
		capacity := 1 + next(30)
		slots, e := Schedule(l, capacity)
		if e == api.ErrFull {
			full++
			continue
		}
		if e != api.OK || Verify(l, slots, capacity) != api.OK {
			t.Fatalf("Schedule(%v, %d): %v", l, capacity, e)
		}
		for i, m := range l {
			sums, _ := Load([]Message{m}, slots[i:i+1])
			sent := 0
			for _, n := range sums {
				sent += n / m.Length
			}
			if sent != 32/m.Period {
				t.Fatalf("%v is sent %d times", m, sent)
			}
		}
	}
	if full < 100 || full > 1900 {
		t.Errorf("%d lists do not fit", full)
	}
}
