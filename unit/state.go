package unit

import (
	"bytes"

	"flightdeck/alert"
	"flightdeck/api"
	"flightdeck/crc"
	"flightdeck/history"
	"flightdeck/modes"
	"flightdeck/navdb"
	"flightdeck/navigator"
	"flightdeck/octets"
	"flightdeck/performance"
	"flightdeck/windgrid"
)

// allKeys has all keys that can be pressed.
const allKeys = modes.Heading | modes.Nav | modes.Go | modes.Hold | modes.Speed | modes.Change

// digest returns a checksum of a setting. It is a part of each saved state, which no computer with another setting takes.
func digest(s api.Setting) uint32 {
	var w octets.Writer
	for _, db := range s.DBs {
		text, _ := navdb.Text(db)
		w.Text(text, 4)
	}
	perf, _ := performance.Text(s.Perf)
	grid, _ := windgrid.Text(s.Grid)
	w.Text(perf, 4)
	w.Text(grid, 4)
	o, b := s.Options, s.Box
	for _, v := range [21]int64{
		s.Day, s.Empty, s.Reserve, o.Speed, o.Bank, o.Alt, o.Gradient, b.Center.X, b.Center.Y, b.X, b.Y, s.Required,
		s.Level, s.CAS, s.Mach, s.Accel, s.Decel, s.LimitAlt, s.LimitSpeed, s.Bank, s.Roll,
	} {
		w.Int(v)
	}
	return crc.Sum(w.Bytes())
}

// Save returns the state.
func (u *Unit) Save() []byte {
	if u.none() {
		return nil
	}
	var w octets.Writer
	w.Number(uint64(u.digest), 4)
	w.Byte(byte(u.current))
	w.Text(u.history.Text(), 4)
	writeNav(&w, u.nav, u.estimate)
	u.flight.write(&w)
	w.Raw([]byte{u.modes.Lateral, u.modes.Vertical, u.modes.Phase})
	p, t := u.picked, u.targets
	for _, v := range [14]int64{u.required, p.heading, p.alt, p.vs, p.speed, u.hold, t.Bank, t.Speed, t.Alt, t.VS, u.tick, u.past.track, u.past.alt, u.past.fuel} {
		w.Int(v)
	}
	for _, v := range [4]bool{p.armed, u.marks.lateral, u.marks.vertical, u.marks.overshot} {
		w.Bool(v)
	}
	w.Number(uint64(u.keys), 4)
	w.Byte(byte(u.last))
	w.Raw(u.board.Bytes())
	return crc.Seal(w.Bytes())
}

// writeNav writes the state of navigation and the estimate.
func writeNav(w *octets.Writer, s api.NavState, x api.Estimate) {
	for _, v := range [11]int64{s.Box.Center.X, s.Box.Center.Y, s.Box.X, s.Box.Y, s.Tick, int64(s.Missed), x.Point.X, x.Point.Y, x.LevelX, x.LevelY, int64(x.Excluded)} {
		w.Int(v)
	}
	w.Bool(x.Usable)
}

// write writes the beginning and the progress, from which the rest follows.
func (f *flight) write(w *octets.Writer) {
	w.Bool(f.there)
	if !f.there {
		return
	}
	b, g := f.begin, f.progress
	for _, v := range [8]int64{b.point.X, b.point.Y, b.course, b.alt, b.fuel, int64(b.active), int64(g.Element), int64(g.Entry)} {
		w.Int(v)
	}
	w.Bool(g.Done)
}

// Load replaces the state.
func (u *Unit) Load(p []byte) api.Errno {
	if u.none() {
		return api.ErrArg
	}
	body, e := crc.Open(p)
	if e != api.OK {
		return api.ErrForm
	}
	r := octets.NewReader(body)
	if r.Number(4) != uint64(u.digest) {
		return api.ErrForm
	}
	loaded := &Unit{set: u.set, digest: u.digest}
	if !loaded.read(r) || !bytes.Equal(loaded.Save(), p) {
		return api.ErrForm
	}
	u.state = loaded.state
	return api.OK
}

// read takes a state, and reports whether it is one.
func (u *Unit) read(r *octets.Reader) bool {
	u.current = int(r.Byte())
	if u.current > 1 || u.set.DBs[u.current].Header.Name == "" && u.current == 1 {
		return false
	}
	plans, e := history.Parse(r.Text(4))
	if e != api.OK {
		return false
	}
	u.history = plans
	u.nav, u.estimate = readNav(r)
	if !u.readFlight(r) {
		return false
	}
	u.modes = modes.State{Lateral: r.Byte(), Vertical: r.Byte(), Phase: r.Byte()}
	u.targets = api.Targets{Lateral: u.modes.Lateral, Vertical: u.modes.Vertical, Phase: u.modes.Phase}
	u.required = r.Int()
	u.picked = selections{heading: r.Int(), alt: r.Int(), vs: r.Int(), speed: r.Int()}
	u.hold = r.Int()
	u.targets.Bank, u.targets.Speed, u.targets.Alt, u.targets.VS = r.Int(), r.Int(), r.Int(), r.Int()
	u.tick = r.Int()
	u.past = past{track: r.Int(), alt: r.Int(), fuel: r.Int()}
	u.picked.armed = r.Bool()
	u.marks = marks{lateral: r.Bool(), vertical: r.Bool(), overshot: r.Bool()}
	u.keys = uint32(r.Number(4))
	u.last = api.Errno(r.Byte())
	board, e := alert.Restore(alert.Standard(), r.Raw(r.Left()))
	u.board = board
	return e == api.OK && r.Done() && u.soundNav() && u.soundRest()
}

// readNav takes the state of navigation and the estimate.
func readNav(r *octets.Reader) (api.NavState, api.Estimate) {
	box := api.Box{Center: api.Point{X: r.Int(), Y: r.Int()}, X: r.Int(), Y: r.Int()}
	s := api.NavState{Box: box, Tick: r.Int(), Missed: int(r.Int())}
	x := api.Estimate{Point: api.Point{X: r.Int(), Y: r.Int()}, LevelX: r.Int(), LevelY: r.Int(), Excluded: int(r.Int())}
	x.Usable = r.Bool()
	return s, x
}

// soundNav reports whether the estimate is one of the state of navigation.
func (u *Unit) soundNav() bool {
	x, box := u.estimate, u.nav.Box
	if navigator.Check(u.nav) != api.OK || !within(u.required, 0, mostRequired) {
		return false
	}
	if x == (api.Estimate{}) {
		return true
	}
	same := api.Estimate{Point: box.Center, LevelX: box.X, LevelY: box.Y, Excluded: x.Excluded}
	same.Usable = navigator.Usable(same, u.required)
	return x == same && within(int64(x.Excluded), 0, api.MaxSources)
}

// readFlight takes the beginning and the progress, builds the path again, and reports whether this is possible.
func (u *Unit) readFlight(r *octets.Reader) bool {
	if !r.Bool() {
		return !r.Failed()
	}
	b := beginning{point: api.Point{X: r.Int(), Y: r.Int()}, course: r.Int(), alt: r.Int(), fuel: r.Int(), active: int(r.Int())}
	g := api.Progress{Element: int(r.Int()), Entry: int(r.Int()), Done: r.Bool()}
	if r.Failed() || !(past{b.course, b.alt, b.fuel}).sound() {
		return false
	}
	active := u.history.Active()
	f, e := fly(active, b, u.set)
	if e != api.OK || !f.reaches(g, active.Active) {
		return false
	}
	f.progress = g
	u.flight = f
	return true
}

// reaches reports whether a progress is possible on the path, with an active leg of the plan.
func (f *flight) reaches(g api.Progress, active int) bool {
	l := f.path.Elements
	if len(l) == 0 {
		return g == (api.Progress{}) && active == f.begin.active
	}
	if g.Element < 0 || g.Element >= len(l) || g.Entry != l[g.Element].Entry || active != max(f.begin.active, g.Entry) {
		return false
	}
	return !g.Done || g.Element+1 == len(l) || l[g.Element+1].Gap
}

// sound reports whether values can have been measured.
func (p past) sound() bool {
	return within(p.track, 0, api.Circle-1) && altitude(p.alt) && within(p.fuel, 0, api.MaxMass)
}

// soundRest reports whether the other values are possible.
func (u *Unit) soundRest() bool {
	p, t := u.picked, u.targets
	if !within(p.heading, 0, api.Circle-1) || p.heading%api.Degree != 0 || !altitude(p.alt) || !within(p.vs, -maxPicked, maxPicked) || !within(p.speed, 0, api.MaxSpeed) {
		return false
	}
	if !within(t.Bank, -u.set.Bank, u.set.Bank) || !within(t.Speed, 0, api.MaxSpeed) || !altitude(t.Alt) || !within(t.VS, -api.MaxRate, api.MaxRate) {
		return false
	}
	return modes.Valid(u.modes) && altitude(u.hold) && within(u.tick, 0, api.MaxTick) && u.past.sound() && u.keys&^allKeys == 0 && u.last <= api.ErrOff
}
