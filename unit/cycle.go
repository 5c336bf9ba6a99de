package unit

import (
	"slices"

	"flightdeck/agree"
	"flightdeck/angle"
	"flightdeck/api"
	"flightdeck/fixed"
	"flightdeck/lateral"
	"flightdeck/modes"
	"flightdeck/navigator"
	"flightdeck/sequence"
	"flightdeck/trig"
	"flightdeck/vertical"
)

// Greatest vertical speeds: on the way to an altitude to hold or to capture, to a selected one, and in a go-around.
const (
	slowRate   = 1000
	fastRate   = 2000
	aroundRate = 1500
)

// Step makes a cycle with an input set.
func (u *Unit) Step(cycle int64, in []byte) api.Targets {
	one, isOne, two, isTwo, _ := agree.Unpack(in)
	var senses []api.Sense
	if s, e := Decode(one); isOne && e == api.OK {
		senses = append(senses, s)
	}
	if s, e := Decode(two); isTwo && e == api.OK {
		senses = append(senses, s)
	}
	return u.Cycle(senses)
}

// Cycle makes a cycle with the inputs of both computers, as far as they are there, and returns the targets.
func (u *Unit) Cycle(senses []api.Sense) api.Targets {
	if u.none() {
		return api.Targets{}
	}
	var counted []api.Sense
	for _, s := range senses {
		if len(counted) < 2 && CheckSense(s) == api.OK {
			counted = append(counted, s)
		}
	}
	if len(counted) == 0 {
		return u.targets
	}
	var reports []api.Report
	for _, s := range counted {
		if s.Command != "" {
			u.Do(s.Command)
		}
		reports = append(reports, s.Reports...)
	}
	a := counted[0]
	u.navigate(a, reports[:min(len(reports), api.MaxReports)])
	p := u.look(a)
	before := u.modes
	u.switchModes(p)
	u.targets = u.aim(p, before)
	u.warn(p)
	u.keys = 0
	u.tick = a.Tick
	u.past = past{p.track, a.Alt, a.Fuel}
	return u.targets
}

// activeLeg returns the entry of the active leg, if there is one.
func (u *Unit) activeLeg() (api.Entry, bool) {
	p := u.history.Active()
	if p.Active < 0 || p.Active >= len(p.Entries) {
		return api.Entry{}, false
	}
	return p.Entries[p.Active], true
}

// navigate runs the navigation cycle, and passes the elements that lie behind.
func (u *Unit) navigate(a api.Sense, reports []api.Report) {
	u.required = u.set.Required
	if x, ok := u.activeLeg(); ok && x.Leg.RNP != 0 {
		u.required = x.Leg.RNP
	}
	nav, estimate, e := navigator.Step(u.nav, api.NavInput{Tick: a.Tick, Reports: reports, Velocity: a.Velocity, Drift: a.Drift, Required: u.required})
	u.estimate = estimate
	if e != api.OK {
		return
	}
	u.nav = nav
	if len(u.flight.path.Elements) == 0 {
		return
	}
	progress, passed := sequence.Step(u.flight.path, u.flight.progress, estimate.Point)
	u.flight.progress = progress
	if len(passed) > 0 {
		u.advance()
	}
}

// picture is what a cycle sees of the flight.
type picture struct {
	a             api.Sense
	track, ground int64

	there                bool // there is a current element
	off, turned, nominal int64
	trouble              api.Errno // of these three
	along                int64
	down                 bool // behind the top of descent
}

// look returns what is seen in a cycle.
func (u *Unit) look(a api.Sense) picture {
	p := picture{a: a}
	p.track, _ = trig.Atan2(a.Velocity.East, a.Velocity.North)
	ground, _ := trig.Hypot(a.Velocity.East, a.Velocity.North)
	p.ground = fixed.Clamp(ground, 1, api.MaxSpeed)
	x, there := u.flight.current()
	if !there {
		return p
	}
	p.there = true
	p.off, p.turned, p.nominal, p.trouble = lateral.Errors(x, u.estimate.Point, p.track, p.ground)
	p.along = u.flight.along(u.estimate.Point)
	p.down = u.flight.descending(p.along)
	return p
}

// near reports whether two altitudes differ by at most a band.
func near(a, b, band int64) bool { return fixed.Abs(a-b) <= band }

// conditions returns the conditions of the modes.
func (u *Unit) conditions(p picture) uint32 {
	a := p.a
	ready := p.there && u.estimate.Usable
	active, _ := u.activeLeg()
	alt, e := vertical.Target(u.flight.prediction, u.flight.dists(), p.along)
	captured, _ := vertical.Capture(a.Alt, a.VS, u.picked.alt)
	at := near(a.Alt, u.picked.alt, Inch)
	held := u.keys
	hold := func(condition bool, bit uint32) {
		if condition {
			held |= bit
		}
	}
	hold(a.Ground, modes.Ground)
	hold(a.Thrust, modes.Thrust)
	hold(a.Stopped && a.Ground, modes.Stopped)
	hold(ready, modes.Ready)
	hold(ready && p.trouble == api.OK && within(p.off, -Zone, Zone), modes.Zone)
	hold(active.Section == api.SecApproach, modes.Final)
	hold(u.picked.alt > a.Alt, modes.Above)
	hold(u.picked.armed && ready && e == api.OK && near(a.Alt, alt, Band), modes.Take)
	hold(at, modes.At)
	hold(at || captured, modes.Near)
	hold(!a.Ground && a.Alt >= Accel, modes.Accel)
	hold(near(a.Alt, u.set.Level, Band), modes.Level)
	hold(p.down, modes.Down)
	return held
}

// switchModes steps the modes and keeps the marks.
func (u *Unit) switchModes(p picture) {
	next, events, e := modes.Step(u.modes, u.conditions(p))
	if e != api.OK { // not possible, as the conditions are allowed
		return
	}
	u.modes = next
	if next.Vertical == api.VertPath || next.Vertical == api.VertGlide {
		u.picked.armed = false
	}
	keep := func(mark bool, event string, stays bool) bool {
		return slices.Contains(events, event) || mark && stays
	}
	u.marks = marks{
		lateral:  keep(u.marks.lateral, "LATREV", next.Lateral == api.LatHeading),
		vertical: keep(u.marks.vertical, "VERTREV", next.Vertical == api.VertHold),
		overshot: keep(u.marks.overshot, "OVERSHOT", next.Vertical != api.VertHold),
	}
}

// aim returns the targets of a cycle; before are the modes ahead of it.
func (u *Unit) aim(p picture, before modes.State) api.Targets {
	t := api.Targets{Lateral: u.modes.Lateral, Vertical: u.modes.Vertical, Phase: u.modes.Phase}
	t.Bank = lateral.Limit(u.targets.Bank, u.bank(p), u.set.Roll)
	t.Speed = u.picked.speed
	if t.Speed == 0 {
		t.Speed = u.set.CAS
	}
	if p.a.Ground {
		u.hold = p.a.Alt
		t.Alt = p.a.Alt
		return t
	}
	if t.Vertical == api.VertHold && (before.Vertical != api.VertHold || u.keys&modes.Hold != 0) {
		u.hold = p.a.Alt
		if before.Vertical == api.VertCapture {
			u.hold = u.picked.alt
		}
	}
	if t.Vertical != api.VertPath && t.Vertical != api.VertGlide {
		var wanted int64
		t.Alt, wanted = u.climb(p)
		t.VS, _ = vertical.Limit(u.targets.VS, wanted)
		return t
	}
	return u.steer(p, t)
}

// bank returns the wanted bank.
func (u *Unit) bank(p picture) int64 {
	switch u.modes.Lateral {
	case api.LatHeading, api.LatArmed:
		return lateral.Command(0, angle.Diff(u.picked.heading, p.track), 0, u.set.Bank)
	case api.LatNav, api.LatApproach:
		if p.there && p.trouble == api.OK {
			return lateral.Command(p.off, p.turned, p.nominal, u.set.Bank)
		}
	}
	return 0
}

// climb returns the target altitude and the wanted vertical speed of a mode that does not follow the path.
func (u *Unit) climb(p picture) (alt, vs int64) {
	to := func(target, most int64) (int64, int64) {
		vs, _ := vertical.Command(p.a.Alt, target, most)
		return target, vs
	}
	switch u.modes.Vertical {
	case api.VertHold:
		return to(u.hold, slowRate)
	case api.VertCapture:
		return to(u.picked.alt, slowRate)
	case api.VertSpeed:
		return u.picked.alt, u.picked.vs
	case api.VertGoAround:
		return u.picked.alt, aroundRate
	}
	return to(u.picked.alt, fastRate)
}

// steer returns targets along the vertical path.
func (u *Unit) steer(p picture, t api.Targets) api.Targets {
	f := &u.flight
	alt, vs, speed, e := vertical.Steer(f.prediction, f.dists(), p.along, p.ground, p.a.Alt, u.targets.VS)
	if !p.there || e != api.OK {
		t.Alt = p.a.Alt
		t.VS, _ = vertical.Limit(u.targets.VS, 0)
		return t
	}
	t.Alt, t.VS = alt, vs
	if u.picked.speed == 0 {
		t.Speed = speed
	}
	return t
}

// warn gives the conditions of the alerts to the board.
func (u *Unit) warn(p picture) {
	f := &u.flight
	passages := f.prediction.Passages
	short := len(passages) > 0 && passages[len(passages)-1].Fuel < u.set.Reserve
	var conds uint16
	for i, holds := range [16]bool{
		0: !u.estimate.Usable, 1: p.a.Fuel < u.set.Reserve, 3: u.marks.lateral, 4: u.marks.vertical, 5: u.marks.overshot,
		6: !effective(u.db().Header, u.set.Day), 7: f.trouble == api.ErrConflict, 8: f.ended(true), 9: f.trouble == api.ErrFuel || short,
		11: u.estimate.Excluded != 0, 13: p.down, 14: f.ended(false),
	} {
		if holds {
			conds |= 1 << i
		}
	}
	u.board.Step(conds, u.modes.Phase)
}
