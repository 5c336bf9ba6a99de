package unit

import (
	"bytes"
	"reflect"
	"testing"

	"flightdeck/api"
	"flightdeck/crc"
)

// walk leads a computer through many states; it calls look after each of them.
func walk(t *testing.T, steps int, look func(r *rig)) {
	s := setting(t)
	s.DBs[1] = database(t, source)
	s.DBs[1].Header.Name = "EAST"
	r := newRig(t, s)
	x := uint32(77)
	next := func(n int) int {
		x = x*1664525 + 1013904223
		return int(x>>8) % n
	}
	commands := []string{"NAV", "CHG", "HOLD", "GA", "PATH", "ACK", "HDG 10", "VS 3000", "ALT 9000", "SPD 200", "EDIT DIRECT 3", "EDIT DELETE 3", "EDIT INSERT 3 D/K1", "EXEC", "EXEC", "UNDO", "REDO", "ERASE", "SWAP", "ROUTE KAAA KAAA", "ROUTE KAAA A/K1 B/K1 C/K1 D/K1 KBBB", long, "NONSENSE"}
	for range steps {
		if next(3) == 0 {
			r.u.Do(commands[next(len(commands))])
		} else {
			r.s.Ground = next(30) == 0
			r.at = pt(r.at.X+int64(next(4000)-1500), r.at.Y+int64(next(8000)-500))
			if next(12) == 0 && len(r.u.flight.path.Elements) > 0 { // on to the end of the element
				r.at = r.u.flight.path.Elements[r.u.flight.progress.Element].B
				r.u.nav.Box.Center = r.at
			}
			r.s.Alt, r.s.VS = min(max(r.s.Alt+int64(next(90_000)-30_000), 0), 3_000_000), int64(next(4000)-2000)
			r.s.Velocity = api.Velocity{East: int64(next(400) - 200), North: int64(next(400) - 100)}
			if r.cycle(); next(15) == 0 {
				r.u.Cycle([]api.Sense{r.s}) // an error of navigation
			}
		}
		look(r)
	}
}

// P57.10
func TestSave(t *testing.T) {
	legs, done := map[int]bool{}, 0
	walk(t, 1200, func(r *rig) {
		u := r.u
		p := u.Save()
		if len(p) == 0 || len(p) > api.MaxSnapshot {
			t.Fatalf("%d bytes", len(p))
		}
		other, _ := New(u.set)
		if e := other.Load(p); e != api.OK {
			t.Fatalf("%v: %+v", e, u.View())
		}
		if !bytes.Equal(other.Save(), p) || !reflect.DeepEqual(other.View(), u.View()) {
			t.Fatalf("another state: %+v", other.View())
		}
		legs[u.View().Active.Active] = true
		if u.View().Progress.Done {
			done++
		}
		s := r.s
		s.Tick += 10
		s.Reports = reports(pt(r.at.X, r.at.Y+700), s.Tick)
		s.Command = []string{"EXEC", "UNDO", "SWAP", "NAV", "EDIT SPD 2 210"}[int(s.Alt)%5]
		again, _ := New(u.set)
		again.Load(p)
		if other.Cycle([]api.Sense{s}) != again.Cycle([]api.Sense{s}) || !bytes.Equal(other.Save(), again.Save()) {
			t.Fatalf("another future")
		}
		if e := again.Load(p); e != api.OK || !bytes.Equal(again.Save(), p) {
			t.Fatalf("back again: %v", e)
		}
	})
	if len(legs) < 4 || done == 0 {
		t.Errorf("few states: %v, %d", legs, done)
	}
}

// P57.10: the computer that was saved has the same future as the one that was loaded.
func TestFuture(t *testing.T) {
	var twin *Unit
	walk(t, 600, func(r *rig) {
		if twin == nil {
			twin, _ = New(r.u.set)
		}
		// The walk moves the box of navigation by itself, so the twin is loaded before each step.
		if e := twin.Load(r.u.Save()); e != api.OK {
			t.Fatal(e)
		}
		r.s.Tick += 10
		r.s.Reports = reports(r.at, r.s.Tick)
		if r.u.Cycle([]api.Sense{r.s}) != twin.Cycle([]api.Sense{r.s}) || r.u.Do("CHG") != twin.Do("CHG") || r.u.Do("EXEC") != twin.Do("EXEC") || !bytes.Equal(r.u.Save(), twin.Save()) || !reflect.DeepEqual(r.u.View(), twin.View()) {
			t.Fatalf("another future")
		}
	})
}

// P57.10: equal commands and cycles lead to equal bytes.
func TestSameBytes(t *testing.T) {
	var first [][]byte
	walk(t, 200, func(r *rig) { first = append(first, r.u.Save()) })
	i := 0
	walk(t, 200, func(r *rig) {
		if !bytes.Equal(first[i], r.u.Save()) {
			t.Fatalf("step %d", i)
		}
		i++
	})
}

// P57.10: what is no state
func TestLoadErrors(t *testing.T) {
	r := newRig(t, setting(t))
	r.cycle()
	r.do(long, "EXEC", "EDIT SPD 2 210", "HDG 40")
	r.cycle()
	p := r.u.Save()
	u, _ := New(setting(t))
	before := u.Save()
	refused := func(name string, p []byte) {
		t.Helper()
		if e := u.Load(p); e != api.ErrForm || !bytes.Equal(u.Save(), before) {
			t.Errorf("%s: %v", name, e)
		}
	}
	refused("nothing", nil)
	refused("four bytes", make([]byte, 4))
	refused("a setting alone", crc.Seal(p[:4]))
	for n := range len(p) {
		refused("a part", p[:n])
		if n != len(p)-4 {
			refused("a part that is sealed", crc.Seal(p[:n]))
		}
	}
	refused("a byte more", append(bytes.Clone(p), 0))
	body, _ := crc.Open(p)
	refused("a byte more that is sealed", crc.Seal(append(bytes.Clone(body), 0)))
	accepted := 0
	for at := range body {
		q := bytes.Clone(p)
		q[at] ^= 0x41
		refused("a damage", q)
		for _, bits := range []byte{1, 0x80, 0xFF} {
			q := bytes.Clone(body)
			q[at] ^= bits
			other, _ := New(setting(t))
			e := other.Load(crc.Seal(q))
			if e == api.OK {
				accepted++
				if !bytes.Equal(other.Save(), crc.Seal(q)) {
					t.Errorf("byte %d: loaded, but another state is saved", at)
				}
				other.Cycle([]api.Sense{{Tick: 500, Drift: 1000, Reports: reports(pt(0, 0), 500), Command: "EXEC"}})
			} else if e != api.ErrForm || !bytes.Equal(other.Save(), before) {
				t.Errorf("byte %d: %v", at, e)
			}
		}
	}
	if accepted == 0 {
		t.Errorf("no other state is one")
	}
	for i, change := range []func(s *api.Setting){
		func(s *api.Setting) { s.Level++ }, func(s *api.Setting) { s.Roll++ }, func(s *api.Setting) { s.Day++ }, func(s *api.Setting) { s.Box.X++ }, func(s *api.Setting) { s.Perf.Extra++ }, func(s *api.Setting) { s.Grid.Err++ }, func(s *api.Setting) { s.DBs[0].Header.Name = "X" }, func(s *api.Setting) { s.DBs[1] = s.DBs[0] }, func(s *api.Setting) { s.Options.Bank++ },
	} {
		s := setting(t)
		change(&s)
		other, _ := New(s)
		saved := other.Save()
		if e := other.Load(p); e != api.ErrForm || !bytes.Equal(other.Save(), saved) {
			t.Errorf("setting %d: %v", i, e)
		}
	}
	s := setting(t)
	s.DBs[1].Fixes = make([]api.Fix, 3) // not used without a name
	other, _ := New(s)
	if e := other.Load(p); e != api.OK {
		t.Errorf("the same setting: %v", e)
	}
}
