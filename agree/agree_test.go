package agree

import (
	"bytes"
	"math"
	"testing"

	"flightdeck/api"
)

func sameHeard(a, b Heard) bool {
	return a.Role == b.Role && a.Steps == b.Steps && a.Want == b.Want && bytes.Equal(a.Input, b.Input)
}

func sameSet(a, b Set) bool {
	return a.Steps == b.Steps && a.Cycle == b.Cycle && a.Fresh == b.Fresh && bytes.Equal(a.In, b.In)
}

func sameFrame(a, b api.Frame) bool {
	return a.Label == b.Label && a.From == b.From && a.Cycle == b.Cycle && bytes.Equal(a.Payload, b.Payload)
}

// P53.1
func TestHello(t *testing.T) {
	long := make([]byte, MaxInput)
	for i, h := range []Heard{{Role: Out}, {Follower, math.MaxInt64, Want{math.MaxInt64, 65535}, long}, {Leader, 258, Want{1, 513}, []byte("AB")}} {
		p, e := PutHello(h)
		if len(p) != 19+len(h.Input) || e != api.OK {
			t.Errorf("case %d: %v, %v", i, p, e)
		}
		if got, e := GetHello(p); !sameHeard(got, h) || e != api.OK {
			t.Errorf("case %d: %v, %v", i, got, e)
		}
	}
	p, _ := PutHello(Heard{Leader, 258, Want{1, 513}, []byte("AB")})
	if want := []byte{2, 2, 1, 0, 0, 0, 0, 0, 0, 1, 0, 0, 0, 0, 0, 0, 0, 1, 2, 'A', 'B'}; !bytes.Equal(p, want) {
		t.Errorf("% x", p)
	}
	for i, c := range []struct {
		h    Heard
		want api.Errno
	}{
		{Heard{}, api.ErrArg}, {Heard{Role: 4}, api.ErrArg}, {Heard{Role: Out, Steps: -1}, api.ErrArg}, {Heard{Role: Out, Want: Want{-1, 0}}, api.ErrArg}, {Heard{Role: Out, Want: Want{0, -1}}, api.ErrArg}, {Heard{Role: Out, Want: Want{0, 65536}}, api.ErrArg}, {Heard{Role: 0, Input: make([]byte, 401)}, api.ErrArg}, {Heard{Role: Out, Input: make([]byte, 401)}, api.ErrLimit},
	} {
		if p, e := PutHello(c.h); len(p) > 0 || e != c.want {
			t.Errorf("error case %d: %v", i, e)
		}
	}
	negative := func(at int) []byte {
		q := bytes.Clone(p)
		q[at] = 0x80
		return q
	}
	for i, q := range [][]byte{nil, p[:18], negative(0), negative(8), negative(16), append([]byte{0}, p[1:]...), append([]byte{4}, p[1:]...), append(bytes.Clone(p), make([]byte, 399)...)} {
		if h, e := GetHello(q); !sameHeard(h, Heard{}) || e != api.ErrForm {
			t.Errorf("bytes %d: %v, %v", i, h, e)
		}
	}
	h, _ := GetHello(p)
	h.Input[0] = 'X'
	if p[19] != 'A' {
		t.Errorf("the input shares memory")
	}
}

// P53.2
func TestPack(t *testing.T) {
	long := bytes.Repeat([]byte{5}, 400)
	for i, c := range []struct {
		one   []byte
		isOne bool
		two   []byte
		isTwo bool
		want  []byte
	}{
		{[]byte("A"), true, nil, false, []byte{1, 1, 0, 'A'}}, {nil, false, nil, false, []byte{0}}, {[]byte("A"), true, []byte("BC"), true, []byte{3, 1, 0, 'A', 2, 0, 'B', 'C'}}, {make([]byte, 500), false, nil, true, []byte{2, 0, 0}}, {nil, true, make([]byte, 401), false, []byte{1, 0, 0}}, {nil, false, long, true, append([]byte{2, 0x90, 1}, long...)},
	} {
		p, e := Pack(c.one, c.isOne, c.two, c.isTwo)
		if !bytes.Equal(p, c.want) || e != api.OK {
			t.Errorf("case %d: %v, %v", i, p, e)
		}
		one, isOne, two, isTwo, e := Unpack(p)
		if isOne != c.isOne || isTwo != c.isTwo || isOne && !bytes.Equal(one, c.one) || isTwo && !bytes.Equal(two, c.two) || !isOne && len(one) > 0 || !isTwo && len(two) > 0 || e != api.OK {
			t.Errorf("case %d: %v, %v, %v", i, one, two, e)
		}
	}
	for i, c := range [][2]bool{{true, false}, {true, true}, {false, true}} {
		if p, e := Pack(make([]byte, 401), c[0], make([]byte, 401), c[1]); len(p) > 0 || e != api.ErrLimit {
			t.Errorf("too long %d: %v", i, e)
		}
	}
	for i, p := range [][]byte{nil, {4}, {255}, {0, 0}, {1}, {1, 1}, {1, 1, 0}, {1, 0, 0, 0}, {3, 0, 0}, {3, 0, 0, 0}, {2, 1, 0, 7, 7}, append([]byte{1, 0x91, 1}, make([]byte, 401)...), append([]byte{2, 0x91, 1}, make([]byte, 401)...)} {
		one, isOne, two, isTwo, e := Unpack(p)
		if len(one)+len(two) > 0 || isOne || isTwo || e != api.ErrForm {
			t.Errorf("bytes %d: %v, %v, %v", i, one, two, e)
		}
	}
}

// P53.3
func TestSet(t *testing.T) {
	in := []byte{1, 1, 0, 'A'}
	for i, x := range []Set{{0, 7, false, []byte{0}}, {math.MaxInt64, -1, true, in}} {
		p, e := PutSet(x)
		if len(p) != 9+len(x.In) || e != api.OK {
			t.Errorf("case %d: %v, %v", i, p, e)
		}
		if got, e := GetSet(x.Cycle, p); !sameSet(got, x) || e != api.OK {
			t.Errorf("case %d: %v, %v", i, got, e)
		}
	}
	p, _ := PutSet(Set{258, 9, true, in})
	if want := []byte{2, 1, 0, 0, 0, 0, 0, 0, 1, 1, 1, 0, 'A'}; !bytes.Equal(p, want) {
		t.Errorf("% x", p)
	}
	for i, c := range []struct {
		x    Set
		want api.Errno
	}{{Set{-1, 0, false, nil}, api.ErrArg}, {Set{0, 0, false, nil}, api.ErrForm}, {Set{0, 0, false, []byte{4}}, api.ErrForm}} {
		if p, e := PutSet(c.x); len(p) > 0 || e != c.want {
			t.Errorf("error case %d: %v", i, e)
		}
	}
	for i, q := range [][]byte{nil, p[:8], p[:9], p[:12], append(bytes.Clone(p), 0), {0, 0, 0, 0, 0, 0, 0, 0, 2, 0}, {0, 0, 0, 0, 0, 0, 0, 128, 0, 0}} {
		if x, e := GetSet(5, q); !sameSet(x, Set{}) || e != api.ErrForm {
			t.Errorf("bytes %d: %v, %v", i, x, e)
		}
	}
}

// P53.4
func TestResult(t *testing.T) {
	r := Result{-2, api.Targets{Lateral: 1, Vertical: 2, Phase: 3, Bank: 258, Speed: -1, Alt: math.MinInt64, VS: math.MaxInt64}}
	p := PutResult(r)
	if len(p) != 43 || !bytes.Equal(p[:20], []byte{254, 255, 255, 255, 255, 255, 255, 255, 1, 2, 3, 2, 1, 0, 0, 0, 0, 0, 0, 255}) {
		t.Errorf("% x", p)
	}
	if got, e := GetResult(p); got != r || e != api.OK {
		t.Errorf("%v, %v", got, e)
	}
	for i, q := range [][]byte{nil, p[:42], append(bytes.Clone(p), 0)} {
		if got, e := GetResult(q); got != (Result{}) || e != api.ErrForm {
			t.Errorf("bytes %d: %v, %v", i, got, e)
		}
	}
}

// P53.5
func TestDecide(t *testing.T) {
	for i, c := range []struct {
		number int
		role   byte
		steps  int64
		alone  int
		heard  bool
		other  byte
		theirs int64
		want   byte
	}{
		{2, Leader, 7, 0, true, Leader, 7, Out}, {1, Leader, 7, 0, true, Leader, 7, Leader}, {1, Leader, 7, 0, true, Leader, 8, Out}, {2, Leader, 7, 0, true, Leader, 6, Leader}, {2, Leader, 7, 9, false, Leader, 8, Leader}, {2, Leader, 7, 0, true, Follower, 8, Leader}, {2, Leader, 7, 0, true, Out, 8, Leader},
		{2, Follower, 7, 1, false, Leader, 8, Leader}, {2, Follower, 7, 0, true, Out, 0, Leader}, {2, Follower, 7, 0, true, 9, 8, Leader}, {2, Follower, 7, 0, true, Leader, 8, Out}, {2, Follower, 7, 0, true, Leader, 6, Out}, {1, Follower, 7, 0, true, Leader, 7, Follower}, {2, Follower, 7, 0, true, Leader, 7, Follower},
		{1, Follower, 7, 0, true, Follower, 8, Out}, {2, Follower, 7, 0, true, Follower, 6, Leader}, {1, Follower, 7, 0, true, Follower, 7, Leader}, {2, Follower, 7, 0, true, Follower, 7, Follower},
		{1, Out, 0, 2, false, 0, 0, Out}, {1, Out, 0, 3, false, 0, 0, Leader}, {2, Out, 0, 4, false, Leader, 5, Leader}, {1, Out, 0, 0, true, Out, 0, Leader}, {2, Out, 0, 0, true, Out, 0, Out}, {1, Out, 0, 3, true, Leader, 5, Out}, {1, Out, 0, 3, true, Follower, 5, Out}, {1, 0, 5, 0, true, 0, 0, Leader}, {1, 77, 5, 0, true, 99, 0, Leader}, {2, 0, 5, 2, false, 0, 0, Out}, {2, 4, 5, 9, true, 0, 0, Out},
		{1, Leader, math.MinInt64, math.MinInt, true, Leader, math.MaxInt64, Out},
	} {
		if got := Decide(c.number, c.role, c.steps, c.alone, c.heard, c.other, c.theirs); got != c.want {
			t.Errorf("case %d: %d", i, got)
		}
	}
	for _, ignored := range []byte{0, Out, Leader, Follower} {
		for _, role := range []byte{Out, Leader, Follower} {
			if Decide(1, role, 5, 1, false, ignored, 9) != Decide(1, role, 5, 1, false, 0, 0) {
				t.Errorf("not ignored: %d", ignored)
			}
		}
	}
}

func node(t *testing.T, number int) *Node {
	n, e := NewNode(number)
	if e != api.OK {
		t.Fatal(e)
	}
	return n
}

// leader returns a node that began afresh and has made so many steps alone.
func leader(t *testing.T, number int, steps int) *Node {
	n := node(t, number)
	for n.Role() != Leader || n.Steps() < int64(steps) {
		run(t, n, nil)
	}
	return n
}

func follower(t *testing.T, number int, steps int64) *Node {
	n := node(t, number)
	if e := n.Adopt(steps); e != api.OK {
		t.Fatal(e)
	}
	return n
}

// run makes a cycle of a node that hears nothing.
func run(t *testing.T, n *Node, input []byte) byte {
	if _, e := n.Hello(1, input, Want{}); e != api.OK {
		t.Fatal(e)
	}
	n.Hear(api.Frame{}, false)
	n.Share()
	n.Step(api.Frame{}, false)
	n.Tell(api.Targets{})
	s, e := n.Judge(api.Frame{}, false)
	if e != api.OK {
		t.Fatal(e)
	}
	return s
}

// pair is a cycle of two nodes; the frames whose exchange is in lost do not arrive.
type pair struct {
	nodes   [2]*Node
	targets [2]api.Targets
	lost    [2][3]bool
	sets    [2]Set
	has     [2]bool
	status  [2]byte
}

func (p *pair) cycle(t *testing.T, cycle int64, one, two []byte) {
	inputs := [2][]byte{one, two}
	var f [2]api.Frame
	var ok [2]bool
	for i, n := range p.nodes {
		g, e := n.Hello(cycle, inputs[i], Want{})
		f[i] = g
		if e != api.OK {
			t.Fatal(e)
		}
	}
	for i, n := range p.nodes {
		n.Hear(f[1-i], !p.lost[1-i][0])
	}
	for i, n := range p.nodes {
		f[i], ok[i], _ = n.Share()
	}
	for i, n := range p.nodes {
		p.sets[i], p.has[i], _ = n.Step(f[1-i], ok[1-i] && !p.lost[1-i][1])
	}
	for i, n := range p.nodes {
		f[i], ok[i], _ = n.Tell(p.targets[i])
	}
	for i, n := range p.nodes {
		p.status[i], _ = n.Judge(f[1-i], ok[1-i] && !p.lost[1-i][2])
	}
}

// P53.6
func TestOrder(t *testing.T) {
	for _, number := range []int{0, 3, -1, math.MinInt} {
		if n, e := NewNode(number); n != nil || e != api.ErrArg {
			t.Errorf("number %d: %v", number, e)
		}
	}
	n := node(t, 1)
	if n.Role() != Out || n.Steps() != 0 {
		t.Errorf("a new node: %d, %d", n.Role(), n.Steps())
	}
	calls := []func() (bool, api.Errno){
		func() (bool, api.Errno) {
			f, e := n.Hello(5, []byte("A"), Want{})
			return sameFrame(f, api.Frame{}), e
		},
		func() (bool, api.Errno) {
			h, ok, e := n.Hear(api.Frame{}, false)
			return sameHeard(h, Heard{}) && !ok, e
		},
		func() (bool, api.Errno) {
			f, ok, e := n.Share()
			return sameFrame(f, api.Frame{}) && !ok, e
		},
		func() (bool, api.Errno) {
			x, ok, e := n.Step(api.Frame{}, false)
			return sameSet(x, Set{}) && !ok, e
		},
		func() (bool, api.Errno) {
			f, ok, e := n.Tell(api.Targets{})
			return sameFrame(f, api.Frame{}) && !ok, e
		},
		func() (bool, api.Errno) {
			s, e := n.Judge(api.Frame{}, false)
			return s == 0, e
		},
	}
	for round := range 8 {
		for next := range calls {
			for i, call := range calls {
				if i == next {
					continue
				}
				if zero, e := call(); !zero || e != api.ErrState {
					t.Fatalf("round %d: call %d in place of %d: %v", round, i, next, e)
				}
			}
			if next == 0 {
				for _, c := range []struct {
					cycle int64
					input []byte
					w     Want
					want  api.Errno
				}{{-1, make([]byte, 401), Want{}, api.ErrArg}, {1, make([]byte, 401), Want{-1, 0}, api.ErrArg}, {1, make([]byte, 401), Want{}, api.ErrLimit}, {math.MinInt64, nil, Want{}, api.ErrArg}} {
					if f, e := n.Hello(c.cycle, c.input, c.w); !sameFrame(f, api.Frame{}) || e != c.want {
						t.Errorf("Hello: %v", e)
					}
				}
			}
			if _, e := calls[next](); e != api.OK {
				t.Fatalf("round %d: call %d: %v", round, next, e)
			}
		}
	}
	if n.Role() != Leader || n.Steps() != 6 {
		t.Errorf("after 8 cycles alone: %d, %d", n.Role(), n.Steps())
	}
}

// P53.7
func TestFrames(t *testing.T) {
	n := follower(t, 2, 258)
	input := []byte("AB")
	f, e := n.Hello(77, input, Want{5, 6})
	payload, _ := PutHello(Heard{Follower, 258, Want{5, 6}, []byte("AB")})
	if !sameFrame(f, api.Frame{Label: HelloLabel, From: 2, Cycle: 77, Payload: payload}) || e != api.OK {
		t.Errorf("%v, %v", f, e)
	}
	input[0] = 'X'
	n.Hear(api.Frame{}, false)
	f, ok, e := n.Share()
	payload, _ = PutSet(Set{258, 77, false, []byte{2, 2, 0, 'A', 'B'}})
	if !sameFrame(f, api.Frame{Label: SetLabel, From: 2, Cycle: 77, Payload: payload}) || !ok || e != api.OK {
		t.Errorf("%v, %v", f, e)
	}
}

// P53.6, P53.8
func TestHear(t *testing.T) {
	hi, _ := PutHello(Heard{Leader, 7, Want{3, 4}, []byte("HI")})
	good := api.Frame{Label: HelloLabel, From: 1, Cycle: 9, Payload: hi}
	for i, c := range []struct {
		f    api.Frame
		came bool
		fits bool
	}{
		{good, true, true}, {good, false, false}, {api.Frame{Label: SetLabel, From: 1, Cycle: 9, Payload: hi}, true, false}, {api.Frame{Label: HelloLabel, From: 2, Cycle: 9, Payload: hi}, true, false}, {api.Frame{Label: HelloLabel, From: 0, Cycle: 9, Payload: hi}, true, false}, {api.Frame{Label: HelloLabel, From: 1, Cycle: 8, Payload: hi}, true, false}, {api.Frame{Label: HelloLabel, From: 1, Cycle: 9, Payload: hi[:5]}, true, false},
	} {
		n := follower(t, 2, 7)
		n.Hello(9, nil, Want{})
		h, ok, e := n.Hear(c.f, c.came)
		want, role := Heard{}, Leader
		if c.fits {
			want, role = Heard{Leader, 7, Want{3, 4}, []byte("HI")}, Follower
		}
		if ok != c.fits || !sameHeard(h, want) || e != api.OK || n.Role() != role || n.Steps() != 7 {
			t.Errorf("case %d: %v, %v, %v, role %d", i, h, ok, e, n.Role())
		}
	}
	n := follower(t, 2, 6)
	n.Hello(9, nil, Want{})
	if n.Hear(good, true); n.Role() != Out || n.Steps() != 0 {
		t.Errorf("other steps: %d, %d", n.Role(), n.Steps())
	}
}

// P53.8, P53.9: what was heard is counted, and the first set of a leader that was out is fresh.
func TestAlone(t *testing.T) {
	n := node(t, 2)
	out, _ := PutHello(Heard{Role: Out})
	cycle := func(came bool) (Set, bool) {
		n.Hello(9, []byte("A"), Want{})
		n.Hear(api.Frame{Label: HelloLabel, From: 1, Cycle: 9, Payload: out}, came)
		shared, ok, _ := n.Share()
		x, has, _ := n.Step(api.Frame{}, false)
		if ok != has {
			t.Errorf("shared %v, stepped %v", ok, has)
		}
		if got, e := GetSet(9, shared.Payload); ok && (e != api.OK || !sameSet(got, x)) {
			t.Errorf("another set is shared: %v", got)
		}
		n.Tell(api.Targets{})
		n.Judge(api.Frame{}, false)
		return x, has
	}
	for i, came := range []bool{false, false, true, false, false} {
		if _, has := cycle(came); has || n.Role() != Out {
			t.Errorf("cycle %d: role %d", i, n.Role())
		}
	}
	if x, has := cycle(false); !has || !sameSet(x, Set{0, 9, true, []byte{2, 1, 0, 'A'}}) || n.Role() != Leader || n.Steps() != 1 {
		t.Errorf("the first set: %v", x)
	}
	if x, has := cycle(true); !has || !sameSet(x, Set{1, 9, false, []byte{2, 1, 0, 'A'}}) || n.Steps() != 2 {
		t.Errorf("the second set: %v", x)
	}
	m := follower(t, 2, 3)
	m.Hello(1, nil, Want{})
	m.Hear(api.Frame{}, false)
	m.Share()
	if x, ok, _ := m.Step(api.Frame{}, false); x.Fresh || x.Steps != 3 || !ok {
		t.Errorf("a follower that leads: %v", x)
	}
}

// P53.9 to P53.12, P53.14
func TestPair(t *testing.T) {
	targets := api.Targets{Lateral: 1, Bank: 5}
	p := pair{nodes: [2]*Node{leader(t, 1, 4), follower(t, 2, 4)}, targets: [2]api.Targets{targets, targets}}
	p.cycle(t, 50, []byte("A"), []byte("B"))
	in := []byte{3, 1, 0, 'A', 1, 0, 'B'}
	want := Set{4, 50, false, in}
	if !sameSet(p.sets[0], want) || !sameSet(p.sets[1], want) || p.status != [2]byte{Valid, Valid} || p.nodes[0].Steps() != 5 || p.nodes[1].Steps() != 5 {
		t.Errorf("%v, %v", p.sets, p.status)
	}
	p.targets[1].VS = 1
	p.cycle(t, 51, nil, nil)
	if p.status != [2]byte{Invalid, Invalid} || p.nodes[1].Role() != Follower {
		t.Errorf("unequal targets: %v", p.status)
	}
	p.targets[1] = targets
	p.lost[0][2] = true
	p.cycle(t, 52, nil, nil)
	if p.status != [2]byte{Valid, Single} || p.nodes[0].Steps() != 7 || p.nodes[1].Steps() != 7 {
		t.Errorf("a lost result: %v", p.status)
	}
	p.lost = [2][3]bool{{false, true, false}}
	p.cycle(t, 53, nil, nil)
	if p.status != [2]byte{Single, Invalid} || p.nodes[1].Role() != Out || p.nodes[1].Steps() != 0 || p.has != [2]bool{true, false} {
		t.Errorf("a lost set: %v", p.status)
	}
	p.lost = [2][3]bool{}
	p.cycle(t, 54, []byte("A"), []byte("B"))
	if p.status != [2]byte{Single, Invalid} || !sameSet(p.sets[0], Set{8, 54, false, []byte{1, 1, 0, 'A'}}) {
		t.Errorf("one is out: %v, %v", p.status, p.sets[0])
	}
	mirrored := pair{nodes: [2]*Node{follower(t, 1, 4), leader(t, 2, 4)}}
	mirrored.cycle(t, 9, []byte("A"), []byte("B"))
	if !sameSet(mirrored.sets[0], Set{4, 9, false, in}) || mirrored.status != [2]byte{Valid, Valid} {
		t.Errorf("computer 2 leads: %v", mirrored.sets)
	}
	mirrored.lost[1][0] = true // computer 1 does not hear computer 2: both lead
	mirrored.cycle(t, 10, []byte("A"), []byte("B"))
	if !sameSet(mirrored.sets[0], Set{5, 10, false, []byte{1, 1, 0, 'A'}}) || !sameSet(mirrored.sets[1], Set{5, 10, false, in}) || mirrored.status != [2]byte{Invalid, Valid} {
		t.Errorf("both lead: %v, %v", mirrored.sets, mirrored.status)
	}
	both := pair{nodes: [2]*Node{follower(t, 1, 4), follower(t, 2, 4)}}
	both.cycle(t, 3, nil, nil)
	if both.nodes[0].Role() != Leader || both.nodes[1].Role() != Follower || both.status != [2]byte{Valid, Valid} {
		t.Errorf("both follow: %v", both.status)
	}
}

// P53.10
func TestStep(t *testing.T) {
	greet, _ := PutHello(Heard{Role: Leader, Steps: 7})
	in := []byte{1, 0, 0}
	payload := func(x Set) []byte {
		p, _ := PutSet(x)
		return p
	}
	good := payload(Set{7, 0, false, in})
	for i, c := range []struct {
		f    api.Frame
		came bool
		ok   bool
	}{
		{api.Frame{Label: SetLabel, From: 1, Cycle: 9, Payload: good}, true, true}, {api.Frame{Label: SetLabel, From: 1, Cycle: 9, Payload: good}, false, false}, {api.Frame{Label: ResultLabel, From: 1, Cycle: 9, Payload: good}, true, false}, {api.Frame{Label: SetLabel, From: 2, Cycle: 9, Payload: good}, true, false}, {api.Frame{Label: SetLabel, From: 1, Cycle: 10, Payload: good}, true, false}, {api.Frame{Label: SetLabel, From: 1, Cycle: 9, Payload: good[:9]}, true, false},
		{api.Frame{Label: SetLabel, From: 1, Cycle: 9, Payload: payload(Set{8, 0, false, in})}, true, false}, {api.Frame{Label: SetLabel, From: 1, Cycle: 9, Payload: payload(Set{6, 0, false, in})}, true, false}, {api.Frame{Label: SetLabel, From: 1, Cycle: 9, Payload: payload(Set{7, 0, true, in})}, true, false},
	} {
		n := follower(t, 2, 7)
		n.Hello(9, nil, Want{})
		n.Hear(api.Frame{Label: HelloLabel, From: 1, Cycle: 9, Payload: greet}, true)
		if f, ok, e := n.Share(); ok || !sameFrame(f, api.Frame{}) || e != api.OK {
			t.Errorf("case %d: a follower shares", i)
		}
		x, ok, e := n.Step(c.f, c.came)
		steps, role, want, status := int64(0), Out, Set{}, Invalid
		if c.ok {
			steps, role, want, status = 8, Follower, Set{7, 9, false, in}, Single
		}
		if ok != c.ok || e != api.OK || n.Steps() != steps || n.Role() != role || !sameSet(x, want) {
			t.Errorf("case %d: %v, %v, %v", i, x, ok, e)
		}
		f, told, e := n.Tell(api.Targets{Alt: 3})
		if told != c.ok || e != api.OK || c.ok != sameFrame(f, api.Frame{Label: ResultLabel, From: 2, Cycle: 9, Payload: PutResult(Result{8, api.Targets{Alt: 3}})}) || !c.ok && !sameFrame(f, api.Frame{}) {
			t.Errorf("case %d: told %v", i, f)
		}
		if s, e := n.Judge(api.Frame{}, false); s != status || e != api.OK {
			t.Errorf("case %d: status %d", i, s)
		}
	}
}

// P53.12
func TestJudge(t *testing.T) {
	targets := api.Targets{Alt: 3}
	good := PutResult(Result{8, targets})
	frame := func(p []byte) api.Frame { return api.Frame{Label: ResultLabel, From: 2, Cycle: 9, Payload: p} }
	for i, c := range []struct {
		other byte // what the leader heard, 0: nothing
		f     api.Frame
		came  bool
		want  byte
	}{
		{Follower, frame(good), true, Valid}, {Follower, frame(good), false, Single}, {Follower, frame(good[:42]), true, Single}, {Follower, api.Frame{Label: SetLabel, From: 2, Cycle: 9, Payload: good}, true, Single}, {Follower, api.Frame{Label: ResultLabel, From: 1, Cycle: 9, Payload: good}, true, Single}, {Follower, api.Frame{Label: ResultLabel, From: 2, Cycle: 8, Payload: good}, true, Single},
		{Follower, frame(PutResult(Result{7, targets})), true, Invalid}, {Follower, frame(PutResult(Result{8, api.Targets{Alt: 4}})), true, Invalid},
		{0, frame(good), true, Invalid}, {0, frame(good), false, Single}, {Out, frame(good), true, Invalid}, {Out, frame(good[:5]), true, Single}, {Leader, frame(good), true, Invalid},
	} {
		n := leader(t, 1, 7)
		n.Hello(9, nil, Want{})
		p, e := PutHello(Heard{Role: c.other, Steps: 7})
		n.Hear(api.Frame{Label: HelloLabel, From: 2, Cycle: 9, Payload: p}, e == api.OK)
		n.Share()
		n.Step(api.Frame{}, false)
		n.Tell(targets)
		if s, e := n.Judge(c.f, c.came); s != c.want || e != api.OK {
			t.Errorf("case %d: %d, %v", i, s, e)
		}
	}
}

// P53.13
func TestDrop(t *testing.T) {
	n := node(t, 2)
	run(t, n, nil)
	run(t, n, nil)
	n.Hello(1, nil, Want{})
	if e := n.Adopt(5); e != api.ErrState {
		t.Errorf("Adopt in a cycle: %v", e)
	}
	n.Drop()
	if run(t, n, nil) != Single || n.Role() != Leader || n.Steps() != 1 {
		t.Errorf("the count of cycles is gone: %d", n.Role())
	}
	if e := n.Adopt(0); e != api.ErrState {
		t.Errorf("Adopt of a leader: %v", e)
	}
	n.Drop()
	if n.Role() != Out || n.Steps() != 0 {
		t.Errorf("dropped: %d, %d", n.Role(), n.Steps())
	}
	for _, steps := range []int64{0, -1, 1<<62 + 1, math.MinInt64, math.MaxInt64} {
		if e := n.Adopt(steps); e != api.ErrArg || n.Role() != Out {
			t.Errorf("Adopt(%d): %v", steps, e)
		}
	}
	if e := n.Adopt(1 << 62); e != api.OK || n.Role() != Follower || n.Steps() != 1<<62 {
		t.Errorf("Adopt: %v", e)
	}
	m := leader(t, 1, 3)
	m.Hello(4, []byte("A"), Want{})
	c := m.Clone()
	m.Drop()
	if c.Role() != Leader || c.Steps() != 3 {
		t.Errorf("the copy is dropped, too")
	}
	c.Hear(api.Frame{}, false)
	if f, ok, e := c.Share(); !ok || e != api.OK || !bytes.HasSuffix(f.Payload, []byte{1, 1, 0, 'A'}) {
		t.Errorf("the copy: %v", e)
	}
}

// P53.13
func TestNil(t *testing.T) {
	var n *Node
	n.Drop()
	if n.Role() != 0 || n.Steps() != 0 || n.Clone() != nil || n.Adopt(1) != api.ErrArg {
		t.Errorf("a nil node")
	}
	if _, e := n.Hello(1, nil, Want{}); e != api.ErrArg {
		t.Errorf("Hello: %v", e)
	}
	if _, ok, e := n.Hear(api.Frame{}, true); ok || e != api.ErrArg {
		t.Errorf("Hear: %v", e)
	}
	if _, ok, e := n.Share(); ok || e != api.ErrArg {
		t.Errorf("Share: %v", e)
	}
	if _, ok, e := n.Step(api.Frame{}, true); ok || e != api.ErrArg {
		t.Errorf("Step: %v", e)
	}
	if _, ok, e := n.Tell(api.Targets{}); ok || e != api.ErrArg {
		t.Errorf("Tell: %v", e)
	}
	if s, e := n.Judge(api.Frame{}, true); s != 0 || e != api.ErrArg {
		t.Errorf("Judge: %v", e)
	}
}

// P53.14
func TestAgreement(t *testing.T) {
	x := uint32(9)
	next := func(n int) int {
		x = x*1664525 + 1013904223
		return int(x>>8) % n
	}
	valid := 0
	for range 3000 {
		var p pair
		for i := range p.nodes {
			switch next(3) {
			case 0:
				p.nodes[i] = leader(t, i+1, 1+next(3))
			case 1:
				p.nodes[i] = follower(t, i+1, int64(1+next(3)))
			default:
				p.nodes[i] = node(t, i+1)
			}
		}
		for cycle := range 4 {
			for i := range p.targets {
				p.targets[i].Alt = int64(next(2))
				for k := range p.lost[i] {
					p.lost[i][k] = next(6) == 0
				}
			}
			p.cycle(t, int64(cycle), []byte{byte(next(9))}, []byte{byte(next(9))})
			if p.status != [2]byte{Valid, Valid} {
				continue
			}
			valid++
			if p.targets[0] != p.targets[1] || !sameSet(p.sets[0], p.sets[1]) || !p.has[0] || p.nodes[0].Steps() != p.nodes[1].Steps() {
				t.Fatalf("valid without agreement: %v", p)
			}
		}
	}
	if valid < 100 {
		t.Errorf("only %d cycles are valid", valid)
	}
}
