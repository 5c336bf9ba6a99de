package resync

import (
	"bytes"
	"math"
	"testing"

	"flightdeck/agree"
	"flightdeck/api"
)

func computer(t *testing.T, number int) *Computer {
	c, e := NewComputer(number)
	if e != api.OK {
		t.Fatal(e)
	}
	return c
}

// link carries the frames between two computers; lost has the exchanges in which no frame of a computer arrives.
type link struct {
	computers [2]*Computer
	lost      [2][4]bool
	saves     [2][]byte
	sets      [2]agree.Set
	hellos    [2]agree.Heard
	pieces    [2]api.Frame
	served    [2]bool
	jobs      [2]Job
	has       [2]bool
	status    [2]byte
}

func (l *link) cycle(t *testing.T, cycle int64) {
	var f [2]api.Frame
	var ok [2]bool
	check := func(e api.Errno) {
		t.Helper()
		if e != api.OK {
			t.Fatalf("cycle %d: %v", cycle, e)
		}
	}
	for i, c := range l.computers {
		g, e := c.Hello(cycle, []byte{byte(cycle)})
		check(e)
		f[i] = g
		l.hellos[i], _ = agree.GetHello(g.Payload)
	}
	for i, c := range l.computers {
		check(c.Hear(f[1-i], !l.lost[1-i][0]))
	}
	for i, c := range l.computers {
		g, shared, e := c.Share()
		check(e)
		f[i], ok[i] = g, shared
	}
	for i, c := range l.computers {
		x, _, e := c.Step(f[1-i], ok[1-i] && !l.lost[1-i][1])
		check(e)
		l.sets[i] = x
	}
	for i, c := range l.computers {
		g, told, e := c.Tell(api.Targets{})
		check(e)
		f[i], ok[i] = g, told
	}
	for i, c := range l.computers {
		s, e := c.Judge(f[1-i], ok[1-i] && !l.lost[1-i][2])
		check(e)
		l.status[i] = s
	}
	for i, c := range l.computers {
		g, served, e := c.Serve(l.saves[i])
		check(e)
		l.pieces[i], l.served[i] = g, served
	}
	for i, c := range l.computers {
		j, has, e := c.Take(l.pieces[1-i], l.served[1-i] && !l.lost[1-i][3])
		check(e)
		l.jobs[i], l.has[i] = j, has
	}
}

func newLink(t *testing.T, save []byte) *link {
	return &link{computers: [2]*Computer{computer(t, 1), computer(t, 2)}, saves: [2][]byte{save, save}}
}

// P54.8 to P54.11
func TestTransfer(t *testing.T) {
	save := bytes.Repeat([]byte{7}, 1300)
	l := newLink(t, save)
	l.cycle(t, 1)
	if p, e := Decode(l.pieces[0].Payload); !l.served[0] || l.served[1] || e != api.OK || p.Base != 1 || p.Index != 0 || p.Count != 3 || l.pieces[0].Label != agree.PieceLabel || l.pieces[0].From != 1 || l.pieces[0].Cycle != 1 {
		t.Errorf("the first piece: %v, %v", p.Base, e)
	}
	l.cycle(t, 2)
	if l.hellos[1].Want != (agree.Want{Base: 1, Have: 1}) || l.hellos[0].Want != (agree.Want{}) || l.has[1] {
		t.Errorf("hello: %v", l.hellos)
	}
	l.cycle(t, 3)
	j := l.jobs[1]
	if !l.has[1] || j.Base != 1 || !bytes.Equal(j.Snapshot, save) || len(j.Sets) != 2 || j.Sets[0].Cycle != 2 || j.Sets[1].Steps != 2 || l.status != [2]byte{agree.Single, agree.Invalid} {
		t.Errorf("the job: %v", j.Sets)
	}
	if n := l.computers[1].Node(); n.Role() != agree.Follower || n.Steps() != 3 {
		t.Errorf("adopted: %d, %d", n.Role(), n.Steps())
	}
	l.cycle(t, 4)
	if l.status != [2]byte{agree.Valid, agree.Valid} || l.hellos[1].Want != (agree.Want{}) || l.served[0] {
		t.Errorf("then: %v", l.status)
	}
	l.computers[1].Node().Drop()
	if l.computers[1].Node().Role() != agree.Follower {
		t.Errorf("Node is no copy")
	}
	l.lost[0][1] = true // the follower loses a set: it is out, and asks for a snapshot
	l.cycle(t, 5)
	l.lost[0][1] = false
	l.cycle(t, 6)
	if p, _ := Decode(l.pieces[0].Payload); l.status[1] != agree.Invalid || p.Base != 6 || p.Index != 0 {
		t.Errorf("asked again: %v", p.Base)
	}
	l.lost[0][3] = true // a piece is lost: it is served again, and the sets are more than the pieces
	l.cycle(t, 7)
	l.lost[0][3] = false
	l.cycle(t, 8)
	if p, _ := Decode(l.pieces[0].Payload); l.hellos[1].Want != (agree.Want{Base: 6, Have: 1}) || p.Base != 6 || p.Index != 1 || l.computers[1].collector.Want().Have != 0 {
		t.Errorf("a lost piece: %v, %v", l.hellos[1].Want, p.Index)
	}
	l.cycle(t, 9)
	if p, _ := Decode(l.pieces[0].Payload); p.Base != 9 || p.Index != 0 {
		t.Errorf("a new snapshot: %d, %d", p.Base, p.Index)
	}
	l.lost[1][0] = true // the leader does not hear the request
	l.cycle(t, 10)
	if l.served[0] {
		t.Errorf("served without a request")
	}
}

// P54.8
func TestOrder(t *testing.T) {
	for _, number := range []int{0, 3, math.MinInt} {
		if c, e := NewComputer(number); c != nil || e != api.ErrArg {
			t.Errorf("number %d: %v", number, e)
		}
	}
	c := computer(t, 1)
	calls := []func() api.Errno{
		func() api.Errno { _, e := c.Hello(5, nil); return e },
		func() api.Errno { return c.Hear(api.Frame{}, false) },
		func() api.Errno { _, _, e := c.Share(); return e },
		func() api.Errno { _, _, e := c.Step(api.Frame{}, false); return e },
		func() api.Errno { _, _, e := c.Tell(api.Targets{}); return e },
		func() api.Errno { _, e := c.Judge(api.Frame{}, false); return e },
		func() api.Errno { _, _, e := c.Serve(nil); return e },
		func() api.Errno { _, _, e := c.Take(api.Frame{}, false); return e },
	}
	for round := range 6 {
		for next := range calls {
			for i, other := range calls {
				if e := other(); i != next && e != api.ErrState {
					t.Fatalf("round %d: call %d in place of %d: %v", round, i, next, e)
				} else if i == next {
					if e != api.OK {
						t.Fatalf("round %d: call %d: %v", round, i, e)
					}
					break
				}
			}
			if e := calls[next](); e != api.ErrState {
				t.Fatalf("round %d: call %d twice: %v", round, next, e)
			}
		}
		if _, e := c.Hello(-1, make([]byte, 401)); e != api.ErrArg {
			t.Errorf("a negative cycle: %v", e)
		}
		if _, e := c.Hello(1, make([]byte, 401)); e != api.ErrLimit {
			t.Errorf("a long input: %v", e)
		}
	}
	if n := c.Node(); n.Role() != agree.Leader || n.Steps() != 4 {
		t.Errorf("after six cycles alone: %d, %d", n.Role(), n.Steps())
	}
	c.Hello(9, nil)
	c.Drop()
	if _, e := c.Hello(9, nil); e != api.OK || c.Node().Role() != agree.Out {
		t.Errorf("Drop: %v", e)
	}
}

// P54.8: with another role, what was collected and served is forgotten.
func TestForget(t *testing.T) {
	l := newLink(t, make([]byte, 1300))
	l.cycle(t, 1)
	for k := range int64(3) { // computer 2 hears nothing, and begins afresh
		l.lost[0] = [4]bool{true, true, true, true}
		l.cycle(t, 2+k)
	}
	if l.computers[1].Node().Role() != agree.Leader || l.computers[1].collector.Want() != (agree.Want{}) {
		t.Errorf("the collector has %v", l.computers[1].collector.Want())
	}
	l = newLink(t, make([]byte, 1300))
	l.cycle(t, 1)
	l.computers[1].Drop()
	l.cycle(t, 2)
	if l.hellos[1].Want != (agree.Want{}) {
		t.Errorf("dropped, and wants %v", l.hellos[1].Want)
	}
	l = newLink(t, make([]byte, 5))
	l.cycle(t, 1)
	c := l.computers[1] // a follower that is out after Step has nothing
	c.collector.Take(Piece{1, 0, 2, nil})
	c.sender.Serve(agree.Want{}, 1, nil)
	l.lost[0][1] = true
	l.cycle(t, 2)
	if c.Node().Role() != agree.Out || len(c.sender.pieces) != 0 || c.collector.Want() != (agree.Want{}) {
		t.Errorf("not forgotten")
	}
}

// P54.10, P54.11
func TestServe(t *testing.T) {
	l := newLink(t, nil)
	l.cycle(t, 1)
	if !l.served[0] || !l.has[1] || len(l.jobs[1].Snapshot) != 0 {
		t.Errorf("an empty snapshot: %v", l.jobs[1])
	}
	c := computer(t, 1)
	out, _ := agree.PutHello(agree.Heard{Role: agree.Out})
	hello := func(cycle int64) {
		c.Hello(cycle, nil)
		c.Hear(api.Frame{Label: agree.HelloLabel, From: 2, Cycle: cycle, Payload: out}, true)
		c.Share()
		c.Step(api.Frame{}, false)
		c.Tell(api.Targets{})
		c.Judge(api.Frame{}, false)
	}
	hello(1)
	if f, ok, e := c.Serve(make([]byte, api.MaxSnapshot+1)); ok || f.Label != 0 || e != api.ErrLimit {
		t.Errorf("a long snapshot: %v", e)
	}
	if _, ok, e := c.Take(api.Frame{}, false); ok || e != api.OK {
		t.Errorf("Take after it: %v", e)
	}
	hello(2)
	if f, ok, e := c.Serve(nil); !ok || f.Cycle != 2 || e != api.OK {
		t.Errorf("the next one: %v", e)
	}
	c.Take(api.Frame{}, false)
}

// P54.11
func TestTake(t *testing.T) {
	piece, _ := Encode(Piece{4, 0, 1, []byte("A")})
	part, _ := Encode(Piece{4, 0, 2, []byte("A")})
	for i, c := range []struct {
		f    api.Frame
		came bool
		want bool
	}{
		{api.Frame{Label: agree.PieceLabel, From: 1, Cycle: 9, Payload: piece}, true, true}, {api.Frame{Label: agree.PieceLabel, From: 1, Cycle: 9, Payload: piece}, false, false}, {api.Frame{Label: agree.SetLabel, From: 1, Cycle: 9, Payload: piece}, true, false}, {api.Frame{Label: agree.PieceLabel, From: 2, Cycle: 9, Payload: piece}, true, false}, {api.Frame{Label: agree.PieceLabel, From: 1, Cycle: 8, Payload: piece}, true, false}, {api.Frame{Label: agree.PieceLabel, From: 1, Cycle: 9, Payload: piece[:5]}, true, false}, {api.Frame{Label: agree.PieceLabel, From: 1, Cycle: 9, Payload: part}, true, false},
	} {
		x := computer(t, 2)
		x.Hello(9, nil)
		x.Hear(api.Frame{}, false)
		x.Share()
		x.Step(api.Frame{}, false)
		x.Tell(api.Targets{})
		x.Judge(api.Frame{}, false)
		x.Serve(nil)
		j, ok, e := x.Take(c.f, c.came)
		role, steps := agree.Out, int64(0)
		if c.want {
			role, steps = agree.Follower, 4
		}
		if ok != c.want || e != api.OK || x.Node().Role() != role || x.Node().Steps() != steps || ok && string(j.Snapshot) != "A" || !ok && j.Base != 0 {
			t.Errorf("case %d: %v, %v, %v", i, j, ok, e)
		}
	}
}
