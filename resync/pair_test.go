package resync

import (
	"bytes"
	"testing"

	"flightdeck/agree"
	"flightdeck/api"
	"flightdeck/crc"
)

// machine adds up what it is stepped with; its state has a few pieces.
type machine struct {
	sum   uint32
	steps uint32
	loads int
	ins   [][]byte
	size  int
}

func (m *machine) Step(cycle int64, in []byte) api.Targets {
	m.ins = append(m.ins, bytes.Clone(in))
	m.sum = crc.Update(m.sum, append([]byte{byte(cycle)}, in...))
	m.steps++
	return api.Targets{Lateral: byte(m.sum), Bank: int64(m.sum % 1000), Speed: int64(m.steps), Alt: -int64(m.sum % 7777), VS: int64(m.sum>>8) % 500}
}

func (m *machine) Save() []byte {
	p := make([]byte, 8+int(m.sum)%(m.size+1))
	for i := range 4 {
		p[i], p[4+i] = byte(m.sum>>(8*i)), byte(m.steps>>(8*i))
	}
	return crc.Seal(p)
}

func (m *machine) Load(p []byte) api.Errno {
	q, e := crc.Open(p)
	if e != api.OK || len(q) < 8 {
		return api.ErrForm
	}
	m.loads++
	m.sum, m.steps = 0, 0
	for i := range 4 {
		m.sum |= uint32(q[i]) << (8 * i)
		m.steps |= uint32(q[4+i]) << (8 * i)
	}
	clear(p)
	return api.OK
}

// broken is a machine that loads nothing but its initial state.
type broken struct{ machine }

func (m *broken) Load(p []byte) api.Errno {
	if q, _ := crc.Open(p); len(q) < 8 || q[4] != 0 {
		return api.ErrForm
	}
	return m.machine.Load(p)
}

var noRates = Rates{1 << 40, 1 << 40, 1 << 40, 1 << 40}

func newPair(t *testing.T, size int, r Rates) (*Pair, [2]*machine) {
	l := [2]*machine{{size: size}, {size: size}}
	p, e := NewPair(l[0], l[1], r)
	if e != api.OK {
		t.Fatal(e)
	}
	return p, l
}

// P54.12
func TestNewPair(t *testing.T) {
	big := &machine{sum: 1 << 30, size: 1 << 30}
	for i, c := range []struct {
		one, two App
		r        Rates
		want     api.Errno
	}{
		{nil, &machine{}, Rates{}, api.ErrArg}, {&machine{}, nil, Rates{}, api.ErrArg}, {nil, nil, Rates{}, api.ErrArg}, {&machine{}, &machine{}, Rates{Bank: -1}, api.ErrArg}, {&machine{}, &machine{}, Rates{Speed: -1}, api.ErrArg}, {&machine{}, &machine{}, Rates{Alt: -1}, api.ErrArg}, {&machine{}, &machine{}, Rates{VS: -1}, api.ErrArg}, {&machine{}, &machine{sum: 1}, Rates{}, api.ErrArg}, {&machine{sum: 1 << 19, size: 1 << 20}, &machine{sum: 1 << 19, size: 1 << 20}, Rates{}, api.ErrLimit}, {big, &machine{}, Rates{}, api.ErrArg}, {&machine{}, &machine{}, Rates{}, api.OK},
	} {
		if i == 9 {
			big.sum, big.size = 1<<19, 1<<20
		}
		if p, e := NewPair(c.one, c.two, c.r); e != c.want || (p == nil) != (e != api.OK) {
			t.Errorf("case %d: %v", i, e)
		}
	}
	p, _ := newPair(t, 0, noRates)
	if p.InUse() != (api.Targets{}) || p.Save(1) != nil || p.Save(2) != nil {
		t.Errorf("a new pair")
	}
}

// P54.13, P54.14
func TestCycle(t *testing.T) {
	p, l := newPair(t, 0, noRates)
	r := p.Cycle([]byte("A"), []byte("B"), Events{})
	if r.Cycle != 1 || r.Role != [2]byte{agree.Leader, agree.Follower} || r.Status != [2]byte{agree.Single, agree.Invalid} || r.Steps != [2]int64{1, 1} || r.Source != 1 || r.Targets[1] != (api.Targets{}) || r.InUse != r.Targets[0] || p.InUse() != r.InUse {
		t.Errorf("cycle 1: %v", r)
	}
	if want := []byte{1, 1, 0, 'A'}; !bytes.Equal(l[0].ins[0], want) || l[0].loads != 1 || l[1].loads != 1 {
		t.Errorf("stepped on %v", l[0].ins)
	}
	r = p.Cycle([]byte("C"), make([]byte, 401), Events{})
	if r.Status != [2]byte{agree.Valid, agree.Valid} || r.Targets[0] != r.Targets[1] || r.Steps != [2]int64{2, 2} || !bytes.Equal(l[1].ins[0], []byte{3, 1, 0, 'C', 0, 0}) {
		t.Errorf("cycle 2: %v, %v", r, l[1].ins)
	}
	if !bytes.Equal(p.Save(1), p.Save(2)) || !bytes.Equal(p.Save(1), l[0].Save()) || p.Save(0) != nil || p.Save(3) != nil || p.Save(-1) != nil {
		t.Errorf("Save")
	}
	before := p.InUse()
	r = p.Cycle(nil, nil, Events{Wrong: [2]int64{0, 4}})
	if r.Status != [2]byte{agree.Invalid, agree.Invalid} || r.Targets[0].Bank != r.Targets[1].Bank^4 || r.Source != 0 || r.InUse != before || r.Role != [2]byte{agree.Leader, agree.Follower} {
		t.Errorf("wrong: %v", r)
	}
	r = p.Cycle(nil, nil, Events{Stop: [2]bool{true, false}})
	if r.Status != [2]byte{agree.Off, agree.Single} || r.Role != [2]byte{0, agree.Leader} || r.Steps != [2]int64{0, 4} || r.Source != 2 || r.Targets[0] != (api.Targets{}) || r.InUse != r.Targets[1] || p.Save(1) != nil {
		t.Errorf("stopped: %v", r)
	}
	r = p.Cycle(nil, nil, Events{Restart: [2]bool{true, true}})
	if r.Status != [2]byte{agree.Invalid, agree.Single} || r.Role != [2]byte{agree.Follower, agree.Leader} || r.Steps != [2]int64{5, 5} {
		t.Errorf("started again: %v", r)
	}
	r = p.Cycle(nil, nil, Events{Corrupt: [2]bool{false, true}})
	if r.Role != [2]byte{agree.Leader, agree.Follower} || r.Status != [2]byte{agree.Single, agree.Invalid} || r.Targets[1] != (api.Targets{}) {
		t.Errorf("corrupt: %v", r)
	}
	r = p.Cycle(nil, nil, Events{Stop: [2]bool{true, true}, Corrupt: [2]bool{true, true}})
	if r.Status != [2]byte{agree.Off, agree.Off} || r.Source != 0 || r.Cycle != 7 {
		t.Errorf("both stopped: %v", r)
	}
	r = p.Cycle(nil, nil, Events{Restart: [2]bool{true, true}, Stop: [2]bool{true, false}})
	if r.Role != [2]byte{agree.Leader, agree.Follower} || r.Steps != [2]int64{1, 1} || l[0].steps != 1 {
		t.Errorf("afresh: %v", r)
	}
}

// P54.13: the fates
func TestFates(t *testing.T) {
	lost := func(computer, exchange int) Events {
		var ev Events
		ev.Fates[computer][exchange] = api.Fate{Pattern: 5}
		return ev
	}
	for i, c := range []struct {
		computer, exchange int
		role, status       [2]byte
	}{
		{0, 0, [2]byte{agree.Leader, agree.Leader}, [2]byte{agree.Invalid, agree.Invalid}}, {1, 0, [2]byte{agree.Leader, agree.Follower}, [2]byte{agree.Invalid, agree.Valid}}, {0, 1, [2]byte{agree.Leader, agree.Out}, [2]byte{agree.Single, agree.Invalid}}, {1, 1, [2]byte{agree.Leader, agree.Follower}, [2]byte{agree.Valid, agree.Valid}}, {0, 2, [2]byte{agree.Leader, agree.Follower}, [2]byte{agree.Valid, agree.Single}}, {1, 2, [2]byte{agree.Leader, agree.Follower}, [2]byte{agree.Single, agree.Valid}},
	} {
		p, _ := newPair(t, 0, noRates)
		p.Cycle(nil, nil, Events{})
		p.Cycle(nil, nil, Events{})
		r := p.Cycle([]byte("A"), []byte("B"), lost(c.computer, c.exchange))
		status := r.Status
		if i == 0 { // two leaders with two different sets
			if r.Role != c.role || r.Targets[0] == r.Targets[1] {
				t.Errorf("case %d: %v", i, r)
			}
			continue
		}
		if r.Role != c.role || status != c.status {
			t.Errorf("case %d: %v", i, r)
		}
	}
	p, _ := newPair(t, 0, noRates)
	if r := p.Cycle(nil, nil, lost(0, 3)); r.Role != [2]byte{agree.Leader, agree.Out} {
		t.Errorf("a lost piece: %v", r)
	}
	q := &broken{}
	p, e := NewPair(&machine{}, q, noRates)
	if e != api.OK {
		t.Fatal(e)
	}
	if r := p.Cycle(nil, nil, Events{}); r.Role != [2]byte{agree.Leader, agree.Out} || r.Steps != [2]int64{1, 0} {
		t.Errorf("a machine that does not load: %v", r)
	}
}

// P54.14
func TestNilPair(t *testing.T) {
	for _, p := range []*Pair{nil, {}} {
		if p.Cycle(nil, nil, Events{Restart: [2]bool{true, true}}) != (Report{}) || p.Save(1) != nil || p.InUse() != (api.Targets{}) {
			t.Errorf("a nil pair")
		}
	}
}

func small(x int64, rate int64) bool { return x >= -rate && x <= rate }

// P54.15 to P54.18
func TestStorm(t *testing.T) {
	x := uint32(11)
	next := func(n int) int {
		x = x*1664525 + 1013904223
		return int(x>>8) % n
	}
	rates := Rates{30, 3, 400, 20}
	valid, equal := 0, 0
	for run := range 60 {
		size := next(4) * 500
		p, l := newPair(t, size, rates)
		quiet, last := 0, api.Targets{}
		for cycle := range 150 {
			var ev Events
			if next(100) < 15*(cycle/20%3) { // storms, and quiet times in between
				i := next(2)
				ev.Stop[i], ev.Restart[1-i], ev.Corrupt[next(2)] = next(6) == 0, next(2) == 0, next(9) == 0
				ev.Wrong[next(2)] = int64(next(3))
				ev.Fates[next(2)][next(4)] = api.Fate{Lost: next(2) == 0, Bit: next(200), Pattern: x}
			}
			if ev == (Events{}) && p.computers[0] != nil && p.computers[1] != nil {
				quiet++
			} else {
				quiet = 0
			}
			ins := [2]int{len(l[0].ins), len(l[1].ins)}
			r := p.Cycle([]byte{byte(next(4))}, []byte{byte(next(4))}, ev)
			if r.Status == [2]byte{agree.Valid, agree.Valid} {
				valid++
				if r.Targets[0] != r.Targets[1] || !bytes.Equal(l[0].ins[ins[0]], l[1].ins[ins[1]]) {
					t.Fatalf("run %d, cycle %d: valid, and not equal: %v", run, cycle, r)
				}
			}
			if (r.Role == [2]byte{agree.Leader, agree.Follower} || r.Role == [2]byte{agree.Follower, agree.Leader}) && r.Steps[0] == r.Steps[1] {
				equal++
				if !bytes.Equal(p.Save(1), p.Save(2)) {
					t.Fatalf("run %d, cycle %d: other states", run, cycle)
				}
			}
			if pieces := (size + 12 + 599) / 600; quiet >= pieces+2 && r.Status != [2]byte{agree.Valid, agree.Valid} {
				t.Fatalf("run %d, cycle %d: not valid after %d quiet cycles: %v", run, cycle, quiet, r)
			}
			now := r.InUse
			if !small(now.Bank-last.Bank, 30) || !small(now.Speed-last.Speed, 3) || !small(now.Alt-last.Alt, 400) || !small(now.VS-last.VS, 20) || now != p.InUse() || r.Source == 0 && now != last {
				t.Fatalf("run %d, cycle %d: a jump from %v to %v", run, cycle, last, now)
			}
			last = now
		}
	}
	if valid < 1000 || equal < 1000 {
		t.Errorf("%d cycles are valid, %d equal", valid, equal)
	}
}
