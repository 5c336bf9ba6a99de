package alert

import (
	"bytes"
	"math"
	"slices"
	"strings"
	"testing"

	"flightdeck/api"
)

func defs(names ...string) []api.AlertDef {
	var l []api.AlertDef
	for _, n := range names {
		l = append(l, api.AlertDef{Name: n, Level: 2})
	}
	return l
}

// P55.1
func TestCheck(t *testing.T) {
	long := make([]api.AlertDef, 17)
	for i := range long {
		long[i] = api.AlertDef{Name: string(rune('A' + i)), Level: 1}
	}
	for i, c := range []struct {
		l    []api.AlertDef
		want api.Errno
	}{
		{nil, api.OK}, {long[:16], api.OK}, {long, api.ErrLimit}, {make([]api.AlertDef, 17), api.ErrLimit},
		{defs("A B 9", strings.Repeat("X", 20), "0"), api.OK}, {defs(""), api.ErrName}, {defs(strings.Repeat("X", 21)), api.ErrName}, {defs("a"), api.ErrName}, {defs("A-B"), api.ErrName}, {defs("\xC3"), api.ErrName}, {defs(" A"), api.ErrName}, {defs("A "), api.ErrName}, {defs("A  B"), api.ErrName}, {defs(" "), api.ErrName}, {defs("A@"), api.ErrName}, {defs("A["), api.ErrName}, {defs("A/"), api.ErrName}, {defs("A:"), api.ErrName},
		{defs("A", "B", "A"), api.ErrExists}, {[]api.AlertDef{{Name: "A", Level: 0}}, api.ErrRange}, {[]api.AlertDef{{Name: "A", Level: 4}}, api.ErrRange}, {[]api.AlertDef{{Name: "A", Level: 3, Inhibit: 0x1FE}, {Name: "B", Level: 1}}, api.OK}, {[]api.AlertDef{{Name: "A", Level: 3, Inhibit: 1}}, api.ErrArg}, {[]api.AlertDef{{Name: "A", Level: 3, Inhibit: 1 << 9}}, api.ErrArg}, {[]api.AlertDef{{Name: "A", Level: 3, Inhibit: 1 << 15}}, api.ErrArg},
		{[]api.AlertDef{{Name: "A", Level: 1}, {Name: "A", Level: 0, Inhibit: 1}}, api.ErrExists}, {[]api.AlertDef{{Name: "A", Level: 9, Inhibit: 1}, {Name: ""}}, api.ErrRange}, {[]api.AlertDef{{Name: "A", Level: 1, Inhibit: 1}, {Name: ""}}, api.ErrArg},
	} {
		if e := Check(c.l); e != c.want {
			t.Errorf("case %d: %v", i, e)
		}
		b, e := New(c.l)
		if e != c.want || (b == nil) != (e != api.OK) {
			t.Errorf("New %d: %v", i, e)
		}
		if b, e := Restore(c.l, nil); b != nil || e != c.want && c.want != api.OK {
			t.Errorf("Restore %d: %v", i, e)
		}
	}
}

// P55.2
func TestStandard(t *testing.T) {
	const table = `NAV UNUSABLE | 1 | none |
FUEL LOW | 1 | none |
COMPUTERS DISAGREE | 2 | 2, 7 |
LATERAL REVERSION | 2 | 2 |
VERTICAL REVERSION | 2 | 2 |
ALTITUDE OVERSHOT | 2 | 2, 7 |
DATABASE EXPIRED | 2 | 2, 3, 4, 5, 6, 7, 8 |
CONSTRAINTS CONFLICT | 2 | 2, 7 |
DISCONTINUITY | 2 | 1, 2, 8 |
FUEL SHORT | 2 | 2, 7 |
SINGLE COMPUTER | 3 | 2, 6, 7 |
SENSOR EXCLUDED | 3 | 2, 6, 7 |
TIME NOT MET | 3 | 2, 6, 7 |
TOP OF DESCENT | 3 | 2, 5, 6, 7, 8 |
END OF ROUTE | 3 | 2, 7, 8 |
MEMORY FAULT | 3 | 2, 6, 7 |`
	var want []api.AlertDef
	for row := range strings.SplitSeq(table, "\n") {
		cells := strings.Split(row, " | ")
		d := api.AlertDef{Name: cells[0], Level: cells[1][0] - '0'}
		for _, c := range cells[2] {
			if c >= '1' && c <= '8' {
				d.Inhibit |= 1 << (c - '0')
			}
		}
		want = append(want, d)
	}
	if got := Standard(); !slices.Equal(got, want) || Check(got) != api.OK {
		t.Errorf("%v", got)
	}
}

func board(t *testing.T, l []api.AlertDef) *Board {
	b, e := New(l)
	if e != api.OK {
		t.Fatal(e)
	}
	return b
}

// P55.3 to P55.6
func TestBoard(t *testing.T) {
	b := board(t, Standard())
	check := func(master byte, holds string, shown ...int) {
		t.Helper()
		if got := b.Shown(); !slices.Equal(got, shown) || b.Master() != master {
			t.Errorf("shown %v, master %d", got, b.Master())
		}
		var names []string
		for _, i := range shown {
			names = append(names, Standard()[i].Name)
		}
		if got := b.Lines(); !slices.Equal(got, names) {
			t.Errorf("lines %v", got)
		}
		var held []byte
		for _, i := range b.Holding() {
			held = append(held, byte('A'+i))
		}
		if string(held) != holds {
			t.Errorf("holding %s", held)
		}
	}
	step := func(conds uint16, phase byte) {
		t.Helper()
		if e := b.Step(conds, phase); e != api.OK {
			t.Fatal(e)
		}
	}
	check(0, "")
	step(5, 2)
	check(1, "AC", 0)
	if e := b.Ack(2); e != api.ErrState {
		t.Errorf("Ack of one that is inhibited: %v", e)
	}
	if b.Ack(0) != api.OK || b.Ack(0) != api.ErrState {
		t.Errorf("Ack")
	}
	check(0, "AC")
	step(5, 3)
	check(2, "AC", 2)
	step(4, 3)
	step(5, 3)
	check(1, "AC", 0, 2)
	for _, i := range []int{-1, 16, math.MaxInt, math.MinInt} {
		if e := b.Ack(i); e != api.ErrRange {
			t.Errorf("Ack(%d): %v", i, e)
		}
	}
	if e := b.Ack(1); e != api.ErrState {
		t.Errorf("Ack of one that does not hold: %v", e)
	}
	for _, phase := range []byte{0, 9, 255} {
		if e := b.Step(0, phase); e != api.ErrRange {
			t.Errorf("phase %d: %v", phase, e)
		}
	}
	check(1, "AC", 0, 2)
	if b.AckAll() != 2 || b.AckAll() != 0 {
		t.Errorf("AckAll")
	}
	check(0, "AC")
	step(5, 7)
	step(5, 3)
	check(0, "AC") // acknowledged until the condition ceases
	step(0, 3)
	check(0, "")
	step(5, 3)
	check(1, "AC", 0, 2)

	b = board(t, Standard())
	step(1<<10|1<<11, 4)
	check(3, "KL", 10, 11)
	step(1<<10|1<<11|1<<12, 4)
	check(3, "KLM", 12, 10, 11)
	step(1<<10|1<<11|1<<12, 6)
	check(0, "KLM")
	if b.AckAll() != 0 {
		t.Errorf("AckAll of what is inhibited")
	}
	step(1<<10|1<<11|1<<12|1<<2|1, 4)
	check(1, "ACKLM", 0, 2, 12, 10, 11)
	step(math.MaxUint16, 3)
	if len(b.Holding()) != 16 {
		t.Errorf("holding %v", b.Holding())
	}

	b = board(t, defs("A", "B"))
	for _, conds := range []uint16{4, 0x8000, math.MaxUint16} {
		if e := b.Step(conds, 0); e != api.ErrArg {
			t.Errorf("Step(%x): %v", conds, e)
		}
	}
	if e := b.Step(3, 1); e != api.OK || !slices.Equal(b.Shown(), []int{0, 1}) {
		t.Errorf("Step: %v", e)
	}
	if got := b.Bytes(); got[0] != 1 {
		t.Errorf("steps with errors are counted")
	}
	l := defs("A")
	b = board(t, l)
	l[0].Name = "B"
	b.Step(1, 1)
	if !slices.Equal(b.Lines(), []string{"A"}) {
		t.Errorf("the definitions share memory")
	}
}

// P55.7
func TestBytes(t *testing.T) {
	b := board(t, defs("A", "B", "C"))
	if got := b.Bytes(); !bytes.Equal(got, append([]byte{0, 0, 0, 0, 0, 0, 0, 0, 1}, make([]byte, 27)...)) {
		t.Errorf("at first: %v", got)
	}
	for range 257 {
		b.Step(0, 4)
	}
	b.Step(5, 5)
	b.Ack(2)
	want := []byte{2, 1, 0, 0, 0, 0, 0, 0, 5, 1, 2, 1, 0, 0, 0, 0, 0, 0, 0, 0, 0, 0, 0, 0, 0, 0, 0, 3, 2, 1, 0, 0, 0, 0, 0, 0}
	if got := b.Bytes(); !bytes.Equal(got, want) {
		t.Errorf("%v", got)
	}
	c, e := Restore(defs("A", "B", "C"), want)
	if e != api.OK || !bytes.Equal(c.Bytes(), want) || !slices.Equal(c.Shown(), []int{0}) {
		t.Fatalf("%v", e)
	}
	c.Step(7, 5)
	if !slices.Equal(c.Shown(), []int{1, 0}) || !slices.Equal(b.Shown(), []int{0}) {
		t.Errorf("then: %v", c.Shown())
	}
	change := func(at int, v ...byte) []byte {
		p := bytes.Clone(want)
		copy(p[at:], v)
		return p
	}
	for i, c := range []struct {
		p    []byte
		want api.Errno
	}{
		{nil, api.ErrForm}, {want[:35], api.ErrForm}, {append(bytes.Clone(want), 0), api.ErrForm}, {change(7, 0x40), api.ErrForm}, {change(7, 0x80), api.ErrForm}, {change(0, 0, 0, 0, 0, 0, 0, 0, 0x40), api.OK}, {change(0, 1, 0, 0, 0, 0, 0, 0, 0x40), api.ErrForm},
		{change(8, 0), api.ErrForm}, {change(8, 9), api.ErrForm}, {change(8, 8), api.OK}, {change(9, 0), api.ErrForm}, {change(9, 2), api.ErrForm}, {change(9, 3), api.OK}, {change(9, 4), api.ErrForm}, {change(9, 5), api.ErrForm}, {change(10, 0, 0), api.ErrForm}, {change(10, 1, 0), api.OK}, {change(10, 3, 1), api.ErrForm}, {change(17, 1), api.ErrForm}, {change(19, 1), api.ErrForm}, {change(18, 1, 1), api.OK}, {change(18, 2), api.ErrForm},
		{append([]byte{0, 0, 0, 0, 0, 0, 0, 0, 2}, make([]byte, 27)...), api.ErrForm}, {append([]byte{0, 0, 0, 0, 0, 0, 0, 0, 1}, make([]byte, 27)...), api.OK}, {append([]byte{1, 0, 0, 0, 0, 0, 0, 0, 2}, make([]byte, 27)...), api.OK},
	} {
		b, e := Restore(defs("A", "B", "C"), c.p)
		if e != c.want || (b == nil) != (e != api.OK) || e == api.OK && !bytes.Equal(b.Bytes(), c.p) {
			t.Errorf("case %d: %v", i, e)
		}
	}
}

// P55.7: a board that is restored goes on like the one that it was.
func TestRestored(t *testing.T) {
	x := uint32(3)
	next := func(n int) int {
		x = x*1664525 + 1013904223
		return int(x>>8) % n
	}
	a := board(t, Standard())
	for range 3000 {
		b, e := Restore(Standard(), a.Bytes())
		if e != api.OK {
			t.Fatal(e)
		}
		conds, phase, i := uint16(next(1<<16)&next(1<<16)), byte(next(10)), next(18)-1
		if a.Step(conds, phase) != b.Step(conds, phase) || a.Ack(i) != b.Ack(i) || !slices.Equal(a.Shown(), b.Shown()) || !bytes.Equal(a.Bytes(), b.Bytes()) {
			t.Fatalf("other boards: %v, %v", a.Shown(), b.Shown())
		}
	}
}

// P55.7
func TestNil(t *testing.T) {
	var b *Board
	if b.Step(0, 1) != api.ErrArg || b.Ack(0) != api.ErrArg || b.AckAll() != 0 || len(b.Shown())+len(b.Holding())+len(b.Lines())+len(b.Bytes()) != 0 || b.Master() != 0 {
		t.Errorf("a nil board")
	}
}
