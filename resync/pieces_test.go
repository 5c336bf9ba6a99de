package resync

import (
	"bytes"
	"math"
	"testing"

	"flightdeck/agree"
	"flightdeck/api"
)

func samePiece(a, b Piece) bool {
	return a.Base == b.Base && a.Index == b.Index && a.Count == b.Count && bytes.Equal(a.Data, b.Data)
}

// P54.1
func TestSplit(t *testing.T) {
	for _, c := range [][3]int{{0, 1, 0}, {1, 1, 1}, {600, 1, 600}, {601, 2, 1}, {1200, 2, 600}, {api.MaxSnapshot, 874, 488}} {
		data := make([]byte, c[0])
		for i := range data {
			data[i] = byte(i * 7 >> 3)
		}
		l, e := Split(5, data)
		if len(l) != c[1] || e != api.OK {
			t.Fatalf("%d bytes: %d pieces, %v", c[0], len(l), e)
		}
		var joined []byte
		for i, p := range l {
			size := 600
			if i == len(l)-1 {
				size = c[2]
			}
			if p.Base != 5 || p.Index != i || p.Count != c[1] || len(p.Data) != size {
				t.Errorf("%d bytes: piece %d of %d, %d bytes", c[0], p.Index, p.Count, len(p.Data))
			}
			joined = append(joined, p.Data...)
		}
		if !bytes.Equal(joined, data) {
			t.Errorf("%d bytes: other ones", c[0])
		}
		if len(data) > 0 {
			l[0].Data[0] ^= 1
			if data[0] != 0 {
				t.Errorf("a piece shares memory")
			}
		}
	}
	for i, c := range []struct {
		base int64
		size int
		want api.Errno
	}{{0, 5, api.ErrArg}, {-1, api.MaxSnapshot + 1, api.ErrArg}, {1<<61 + 1, 5, api.ErrArg}, {1 << 61, api.MaxSnapshot + 1, api.ErrLimit}, {1, api.MaxSnapshot + 1, api.ErrLimit}, {1 << 61, 5, api.OK}, {math.MinInt64, 0, api.ErrArg}} {
		if l, e := Split(c.base, make([]byte, c.size)); e != c.want || e != api.OK && len(l) > 0 {
			t.Errorf("case %d: %v", i, e)
		}
	}
}

// P54.2
func TestEncode(t *testing.T) {
	for i, p := range []Piece{{1, 0, 1, nil}, {1 << 61, 873, 874, make([]byte, 600)}, {258, 513, 600, []byte("AB")}} {
		b, e := Encode(p)
		if len(b) != 12+len(p.Data) || e != api.OK {
			t.Errorf("case %d: %v", i, e)
		}
		if got, e := Decode(b); !samePiece(got, p) || e != api.OK {
			t.Errorf("case %d: %v, %v", i, got, e)
		}
	}
	b, _ := Encode(Piece{258, 513, 600, []byte("AB")})
	if want := []byte{2, 1, 0, 0, 0, 0, 0, 0, 1, 2, 0x58, 2, 'A', 'B'}; !bytes.Equal(b, want) {
		t.Errorf("% x", b)
	}
	for i, p := range []Piece{{0, 0, 1, nil}, {-1, 0, 1, nil}, {1<<61 + 1, 0, 1, nil}, {1, 0, 0, nil}, {1, 0, 875, nil}, {1, -1, 5, nil}, {1, 5, 5, nil}, {1, 0, 1, make([]byte, 601)}, {1, 0, 1 << 16, nil}, {1, math.MinInt, math.MinInt, nil}} {
		if b, e := Encode(p); len(b) > 0 || e != api.ErrArg {
			t.Errorf("error case %d: %v", i, e)
		}
	}
	for i, q := range [][]byte{nil, b[:11], append(bytes.Clone(b), make([]byte, 599)...), append(make([]byte, 8), b[8:]...), {1, 0, 0, 0, 0, 0, 0, 0, 0, 0, 0, 0}, {1, 0, 0, 0, 0, 0, 0, 0, 1, 0, 1, 0}, {1, 0, 0, 0, 0, 0, 0, 0, 0, 0, 0x6B, 3}, {0, 0, 0, 0, 0, 0, 0, 128, 0, 0, 1, 0}, {1, 0, 0, 0, 0, 0, 0, 0x20, 0, 0, 1, 0}} {
		if p, e := Decode(q); !samePiece(p, Piece{}) || e != api.ErrForm {
			t.Errorf("bytes %d: %v, %v", i, p, e)
		}
	}
}

// P54.3
func TestSender(t *testing.T) {
	s := NewSender()
	old := bytes.Repeat([]byte{1}, 1300)
	other := bytes.Repeat([]byte{2}, 700)
	for i, c := range []struct {
		base  int64
		have  int
		steps int64
		save  []byte
		want  Piece
		e     api.Errno
	}{
		{0, 0, 0, old, Piece{}, api.ErrArg}, {0, 0, 5, make([]byte, api.MaxSnapshot+1), Piece{}, api.ErrLimit}, {0, 0, 5, old, Piece{5, 0, 3, old[:600]}, api.OK}, {5, 1, 6, other, Piece{5, 1, 3, old[:600]}, api.OK}, {5, 2, 7, other, Piece{5, 2, 3, old[:100]}, api.OK}, {5, 0, 0, nil, Piece{5, 0, 3, old[:600]}, api.OK},
		{5, 3, 0, other, Piece{}, api.ErrArg}, {4, 1, 5, make([]byte, api.MaxSnapshot+1), Piece{}, api.ErrLimit}, {5, 2, 0, nil, Piece{5, 2, 3, old[:100]}, api.OK},
		{5, -1, 8, other, Piece{8, 0, 2, other[:600]}, api.OK}, {5, 1, 9, other, Piece{9, 0, 2, other[:600]}, api.OK}, {9, 2, 10, nil, Piece{10, 0, 1, nil}, api.OK}, {10, 0, 99, old, Piece{10, 0, 1, nil}, api.OK},
	} {
		got, e := s.Serve(agree.Want{Base: c.base, Have: c.have}, c.steps, c.save)
		if !samePiece(got, c.want) || e != c.e {
			t.Errorf("case %d: %d, %d of %d, %v", i, got.Base, got.Index, got.Count, e)
		}
		for k := range got.Data {
			got.Data[k] = 99
		}
	}
	s.Reset()
	if p, e := s.Serve(agree.Want{Base: 10}, 11, nil); p.Base != 11 || e != api.OK {
		t.Errorf("after Reset: %v, %v", p, e)
	}
	var none *Sender
	none.Reset()
	if p, e := none.Serve(agree.Want{}, 1, nil); !samePiece(p, Piece{}) || e != api.ErrArg {
		t.Errorf("a nil sender: %v", e)
	}
}

func set(steps int64) agree.Set {
	return agree.Set{Steps: steps, Cycle: 40 + steps, In: []byte{byte(steps)}}
}

// P54.4, P54.5
func TestCollector(t *testing.T) {
	c := NewCollector()
	wants := func(base int64, have int) {
		t.Helper()
		if w := c.Want(); w != (agree.Want{Base: base, Have: have}) {
			t.Errorf("wants %v in place of %d, %d", w, base, have)
		}
	}
	c.Note(set(0), true)
	c.Note(set(0), false)
	c.Take(Piece{5, 1, 3, nil})
	c.Take(Piece{5, 0, 0, nil})
	wants(0, 0)
	c.Take(Piece{5, 0, 3, []byte("AB")})
	wants(5, 1)
	for _, ignored := range []Piece{{5, 2, 3, nil}, {5, 1, 4, nil}, {6, 1, 3, nil}, {5, 1, 3, make([]byte, 601)}, {5, 3, 3, nil}} {
		c.Take(ignored)
	}
	wants(5, 1)
	c.Note(set(5), true)
	c.Take(Piece{5, 1, 3, nil})
	c.Note(set(6), true)
	if _, ok := c.Job(); ok {
		t.Errorf("a job before the last piece")
	}
	c.Take(Piece{5, 2, 3, []byte("C")})
	wants(5, 3)
	for range 2 {
		j, ok := c.Job()
		if !ok || j.Base != 5 || string(j.Snapshot) != "ABC" || len(j.Sets) != 2 || j.Sets[0].Cycle != 45 || j.Sets[1].In[0] != 6 {
			t.Errorf("the job: %v, %v", j, ok)
		}
		j.Snapshot[0], j.Sets[0].In[0] = 'X', 9
	}
	c.Take(Piece{5, 0, 3, []byte("Z")}) // begins anew
	wants(5, 1)
	c.Note(set(5), true)
	c.Note(set(6), true) // no piece came in between
	wants(0, 0)
	for i, bad := range []agree.Set{set(6), set(4), {Steps: 5, Fresh: true}} {
		c.Take(Piece{5, 0, 3, nil})
		c.Note(bad, true)
		if wants(0, 0); t.Failed() {
			t.Errorf("set %d", i)
		}
	}
	c.Take(Piece{5, 0, 3, nil})
	c.Note(set(5), false)
	wants(0, 0)
	c.Take(Piece{5, 0, 1, []byte("Z")})
	if j, ok := c.Job(); !ok || j.Base != 5 || string(j.Snapshot) != "Z" || len(j.Sets) != 0 {
		t.Errorf("one piece: %v, %v", j, ok)
	}
	c.Take(Piece{7, 0, 2, nil}) // another snapshot
	wants(7, 1)
	c.Reset()
	wants(0, 0)
	if j, ok := c.Job(); ok || j.Base != 0 {
		t.Errorf("after Reset: %v", j)
	}
	data, in := []byte("Q"), []byte{1}
	c.Take(Piece{7, 0, 2, data})
	c.Note(agree.Set{Steps: 7, In: in}, true)
	c.Take(Piece{7, 1, 2, nil})
	data[0], in[0] = 'X', 9
	if j, _ := c.Job(); string(j.Snapshot) != "Q" || j.Sets[0].In[0] != 1 {
		t.Errorf("memory is shared: %v", j)
	}
}

// P1: nil collectors and computers
func TestNil(t *testing.T) {
	var c *Collector
	c.Take(Piece{5, 0, 1, nil})
	c.Note(set(5), true)
	c.Reset()
	if _, ok := c.Job(); ok || c.Want() != (agree.Want{}) {
		t.Errorf("a nil collector")
	}
	var x *Computer
	x.Drop()
	if x.Node() != nil {
		t.Errorf("the node of a nil computer")
	}
	_, e1 := x.Hello(1, nil)
	_, _, e2 := x.Share()
	_, _, e3 := x.Step(api.Frame{}, true)
	_, _, e4 := x.Tell(api.Targets{})
	_, e5 := x.Judge(api.Frame{}, true)
	_, _, e6 := x.Serve(nil)
	_, _, e7 := x.Take(api.Frame{}, true)
	for i, e := range []api.Errno{x.Hear(api.Frame{}, true), e1, e2, e3, e4, e5, e6, e7} {
		if e != api.ErrArg {
			t.Errorf("call %d: %v", i, e)
		}
	}
}

// P54.6
func TestLimit(t *testing.T) {
	last := api.Targets{Lateral: 1, Vertical: 2, Phase: 3, Bank: 100, Speed: 200, Alt: 300, VS: 400}
	want := api.Targets{Lateral: 4, Vertical: 5, Phase: 6, Bank: 90, Speed: 700, Alt: -300, VS: 401}
	if got := Limit(last, want, Rates{20, 100, 50, -5}); got != (api.Targets{Lateral: 4, Vertical: 5, Phase: 6, Bank: 90, Speed: 300, Alt: 250, VS: 400}) {
		t.Errorf("%v", got)
	}
	if got := Limit(last, want, Rates{5, 1000, 600, 1}); got != (api.Targets{Lateral: 4, Vertical: 5, Phase: 6, Bank: 95, Speed: 700, Alt: -300, VS: 401}) {
		t.Errorf("%v", got)
	}
	for i, c := range [][4]int64{{0, -700, 300, -300}, {math.MinInt64, math.MaxInt64, math.MaxInt64, -1}, {math.MaxInt64, math.MinInt64, math.MaxInt64, 0}, {math.MinInt64, math.MaxInt64, 5, math.MinInt64 + 5}, {math.MaxInt64, math.MinInt64, 5, math.MaxInt64 - 5}, {math.MaxInt64 - 2, math.MaxInt64, 5, math.MaxInt64}, {7, 9, math.MinInt64, 7}, {7, 7, 0, 7}} {
		r := Rates{c[2], c[2], c[2], c[2]}
		got := Limit(api.Targets{Bank: c[0], Speed: c[0], Alt: c[0], VS: c[0]}, api.Targets{Bank: c[1], Speed: c[1], Alt: c[1], VS: c[1]}, r)
		if got != (api.Targets{Bank: c[3], Speed: c[3], Alt: c[3], VS: c[3]}) {
			t.Errorf("case %d: %v", i, got)
		}
	}
}

// P54.7
func TestSelect(t *testing.T) {
	for one := range byte(7) {
		for two := range byte(7) {
			want := 0
			if two == agree.Valid || two == agree.Single {
				want = 2
			}
			if one == agree.Valid || one == agree.Single {
				want = 1
			}
			if got := Select(one, two); got != want {
				t.Errorf("Select(%d, %d) = %d", one, two, got)
			}
		}
	}
	if Select(255, agree.Single) != 2 {
		t.Errorf("an unknown status")
	}
}
