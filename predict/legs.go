package predict

import (
	"flightdeck/airspeed"
	"flightdeck/api"
	"flightdeck/fixed"
	"flightdeck/fuel"
	"flightdeck/line"
	"flightdeck/performance"
	"flightdeck/wind"
	"flightdeck/windgrid"
)

// Phases of a leg.
const (
	climbing byte = 1 + iota
	level
	descending
)

// leg is a leg of a flight with given altitudes and speeds.
type leg struct {
	s              api.Setup
	i              int // of the node to which it leads
	cas, alt       int64
	course         int64
	phase          byte
	wind           api.Wind
	dev            int64
	box            api.WindBox
	devs           api.Interval
	tas            int64
	slowest, ahead int64 // the least and the greatest airspeed of the deviations
}

// legTo returns the leg to a node.
func legTo(s api.Setup, i int, alts, speeds []int64) leg {
	from, to := s.Nodes[i-1], s.Nodes[i]
	l := leg{s: s, i: i, cas: mean(speeds[i-1], speeds[i]), alt: mean(alts[i-1], alts[i]), phase: level}
	l.course, _ = line.Course(from.At, to.At)
	point := api.Point{X: mean(from.At.X, to.At.X), Y: mean(from.At.Y, to.At.Y)}
	l.wind, l.dev, _ = windgrid.At(s.Grid, point, l.alt)
	l.box, l.devs = hull(s, i)
	l.tas, l.slowest, l.ahead = l.schedule(l.dev), l.schedule(l.devs.Lo), l.schedule(l.devs.Hi)
	switch {
	case alts[i] > alts[i-1]:
		l.phase = climbing
	case alts[i] < alts[i-1]:
		l.phase = descending
	}
	return l
}

// schedule returns the true airspeed at a deviation of the temperature.
func (l leg) schedule(dev int64) int64 {
	tas, _ := airspeed.Schedule(l.cas, l.s.Mach, l.alt, dev)
	return tas
}

// ticks returns the ticks of the leg at a ground speed.
func (l leg) ticks(ground int64) int64 {
	n, _ := fixed.Ceil(l.s.Nodes[l.i].Dist, ground)
	return n
}

// ground returns the ground speed in a wind, in knots.
func (l leg) ground(w api.Wind) (int64, api.Errno) {
	v, _, e := wind.Ground(l.course, l.tas, w)
	return v / wind.Scale, e
}

// flow returns the fuel flow with some fuel left, at a true airspeed.
func (l leg) flow(left, tas int64) int64 {
	mass := l.s.Fuel.Empty + left
	var flow int64
	switch l.phase {
	case climbing:
		flow, _ = performance.ClimbFlow(l.s.Perf, l.alt, mass)
	case descending:
		flow, _ = performance.IdleFlow(l.s.Perf, l.alt)
	default:
		flow, _ = performance.CruiseFlow(l.s.Perf, l.alt, mass, tas)
	}
	return flow
}

// passage returns the passage of the node at the end of the leg, behind that at its beginning.
func (l leg) passage(before api.Passage) (api.Passage, api.Errno) {
	if l.tas == 0 || l.slowest == 0 {
		return api.Passage{}, api.ErrGeom
	}
	ground, e := l.ground(l.wind)
	if e != api.OK {
		return api.Passage{}, e
	}
	groundIn, e := wind.GroundIn(l.course, api.Interval{Lo: l.slowest, Hi: l.ahead}, l.box)
	if e != api.OK {
		return api.Passage{}, e
	}
	ticks, ticksIn := l.ticks(ground), api.Interval{Lo: l.ticks(groundIn.Hi), Hi: l.ticks(groundIn.Lo)}
	left := before.Fuel - l.flow(before.Fuel, l.tas)*ticks
	if left < 0 {
		return api.Passage{}, api.ErrFuel
	}
	flows := api.Interval{Lo: l.flow(before.FuelIn.Lo, l.slowest), Hi: l.flow(before.FuelIn.Hi, l.ahead)}
	leftIn, e := fuel.BurnIn(before.FuelIn, flows, ticksIn)
	if e != api.OK {
		return api.Passage{}, e
	}
	return api.Passage{
		TAS: l.tas, Ground: ground, Tick: before.Tick + ticks, Fuel: left, Phase: l.phase, GroundIn: groundIn,
		TickIn: api.Interval{Lo: before.TickIn.Lo + ticksIn.Lo, Hi: before.TickIn.Hi + ticksIn.Hi}, FuelIn: leftIn,
	}, api.OK
}

// checkFlight returns the error of the altitudes and speeds of a flight.
func checkFlight(s api.Setup, alts, speeds []int64) api.Errno {
	if len(alts) != len(s.Nodes) || len(speeds) != len(s.Nodes) {
		return api.ErrArg
	}
	for i, alt := range alts {
		if !within(alt, api.MinAlt, s.Level) || !within(speeds[i], 0, api.MaxSpeed) {
			return api.ErrRange
		}
	}
	return api.OK
}

// With returns the prediction at given altitudes and speeds.
func With(s api.Setup, alts, speeds []int64) ([]api.Passage, api.Errno) {
	if e := Check(s); e != api.OK {
		return nil, e
	}
	if e := checkFlight(s, alts, speeds); e != api.OK {
		return nil, e
	}
	_, dev, _ := windgrid.At(s.Grid, s.Nodes[0].At, alts[0])
	tas, _ := airspeed.Schedule(speeds[0], s.Mach, alts[0], dev)
	left := fuel.Left(s.Fuel)
	passages := []api.Passage{{Alt: alts[0], CAS: speeds[0], TAS: tas, Fuel: left, FuelIn: api.Interval{Lo: left, Hi: left}}}
	for i := 1; i < len(alts); i++ {
		p, e := legTo(s, i, alts, speeds).passage(passages[i-1])
		if e != api.OK {
			return nil, e
		}
		p.Alt, p.CAS = alts[i], speeds[i]
		passages = append(passages, p)
	}
	return passages, api.OK
}

// Fly returns the ticks and the fuel left at the nodes of a flight in given winds.
func Fly(s api.Setup, p api.Prediction, winds []api.Wind) (ticks, left []int64, e api.Errno) {
	if e := Check(s); e != api.OK {
		return nil, nil, e
	}
	if len(p.Passages) != len(s.Nodes) || len(winds) != len(s.Nodes)-1 {
		return nil, nil, api.ErrArg
	}
	var alts, speeds []int64
	for _, x := range p.Passages {
		alts, speeds = append(alts, x.Alt), append(speeds, x.CAS)
	}
	if e := checkFlight(s, alts, speeds); e != api.OK {
		return nil, nil, e
	}
	if e := inBox(s, winds); e != api.OK {
		return nil, nil, e
	}
	ticks, left = []int64{0}, []int64{fuel.Left(s.Fuel)}
	for i, w := range winds {
		l := legTo(s, i+1, alts, speeds)
		if l.tas == 0 {
			return nil, nil, api.ErrGeom
		}
		ground, e := l.ground(w)
		if e != api.OK {
			return nil, nil, e
		}
		n := l.ticks(ground)
		rest := left[i] - l.flow(left[i], l.tas)*n
		if rest < 0 {
			return nil, nil, api.ErrFuel
		}
		ticks, left = append(ticks, ticks[i]+n), append(left, rest)
	}
	return ticks, left, api.OK
}
