package unit

import (
	"flightdeck/api"
	"flightdeck/octets"
	"flightdeck/sensor"
)

// maxVelocity limits a velocity, in each coordinate.
const maxVelocity = 2000

func within(v, low, high int64) bool { return low <= v && v <= high }

// altitude reports whether a number is an altitude.
func altitude(alt int64) bool { return within(alt, api.MinAlt, api.MaxAlt) }

// CheckSense returns the first error of an input.
func CheckSense(s api.Sense) api.Errno {
	if !within(s.Tick, 0, api.MaxTick) {
		return api.ErrRange
	}
	if len(s.Reports) > MaxSenses {
		return api.ErrLimit
	}
	for _, r := range s.Reports {
		if e := sensor.Check(r); e != api.OK {
			return e
		}
	}
	v := s.Velocity
	if !within(v.East, -maxVelocity, maxVelocity) || !within(v.North, -maxVelocity, maxVelocity) || !within(s.Drift, 0, api.MaxDrift) || !altitude(s.Alt) || !within(s.VS, -api.MaxRate, api.MaxRate) || !within(s.CAS, 0, api.MaxSpeed) || !within(s.Fuel, 0, api.MaxMass) {
		return api.ErrRange
	}
	if len(s.Command) > MaxText {
		return api.ErrLimit
	}
	for i := range len(s.Command) {
		if s.Command[i] < ' ' || s.Command[i] > '~' {
			return api.ErrForm
		}
	}
	return api.OK
}

// Encode returns the bytes of an input.
func Encode(s api.Sense) ([]byte, api.Errno) {
	if e := CheckSense(s); e != api.OK {
		return nil, e
	}
	var w octets.Writer
	w.Int(s.Tick)
	w.Byte(byte(len(s.Reports)))
	for _, r := range s.Reports {
		w.Byte(byte(r.Source))
		w.Byte(byte(r.Kind))
		w.Byte(byte(r.Weight))
		for _, v := range [5]int64{r.Point.X, r.Point.Y, r.Value, r.Bound, r.Tick} {
			w.Int(v)
		}
	}
	for _, v := range [7]int64{s.Velocity.East, s.Velocity.North, s.Drift, s.Alt, s.VS, s.CAS, s.Fuel} {
		w.Int(v)
	}
	w.Bool(s.Ground)
	w.Bool(s.Thrust)
	w.Bool(s.Stopped)
	w.Text(s.Command, 1)
	return w.Bytes(), api.OK
}

// readReport takes a report.
func readReport(r *octets.Reader) api.Report {
	x := api.Report{Source: int(r.Byte()), Kind: api.ReportKind(r.Byte()), Weight: int64(r.Byte())}
	x.Point = api.Point{X: r.Int(), Y: r.Int()}
	x.Value, x.Bound, x.Tick = r.Int(), r.Int(), r.Int()
	return x
}

// Decode returns the input with these bytes.
func Decode(p []byte) (api.Sense, api.Errno) {
	r := octets.NewReader(p)
	s := api.Sense{Tick: r.Int()}
	for n := r.Byte(); n > 0 && !r.Failed(); n-- {
		s.Reports = append(s.Reports, readReport(r))
	}
	s.Velocity = api.Velocity{East: r.Int(), North: r.Int()}
	s.Drift, s.Alt, s.VS, s.CAS, s.Fuel = r.Int(), r.Int(), r.Int(), r.Int(), r.Int()
	s.Ground, s.Thrust, s.Stopped = r.Bool(), r.Bool(), r.Bool()
	s.Command = r.Text(1)
	if !r.Done() || CheckSense(s) != api.OK {
		return api.Sense{}, api.ErrForm
	}
	return s, api.OK
}
