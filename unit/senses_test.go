package unit

import (
	"bytes"
	"math"
	"reflect"
	"strings"
	"testing"

	"flightdeck/agree"
	"flightdeck/api"
)

func fullSense() api.Sense {
	s := api.Sense{Tick: api.MaxTick, Velocity: api.Velocity{East: -2000, North: 2000}, Drift: api.MaxDrift, Alt: api.MinAlt, VS: -api.MaxRate, CAS: api.MaxSpeed, Fuel: api.MaxMass, Ground: true, Stopped: true, Command: strings.Repeat("~ ", 60)}
	s.Reports = []api.Report{
		{Source: 8, Kind: api.PositionReport, Point: pt(-api.MaxXY, api.MaxXY), Bound: 600_000, Weight: 16, Tick: api.MaxTick},
		{Source: 1, Kind: api.RangeReport, Point: pt(1, -1), Value: api.MaxDist, Weight: 1},
		{Source: 2, Kind: api.BearingReport, Value: api.Circle - 1, Bound: 10 * api.Degree, Weight: 3, Tick: 258},
		{Source: 3, Kind: api.PositionReport, Weight: 1},
	}
	return s
}

// P57.1
func TestCheckSense(t *testing.T) {
	for i, c := range []struct {
		change func(s *api.Sense)
		want   api.Errno
	}{
		{func(s *api.Sense) {}, api.OK}, {func(s *api.Sense) { *s = api.Sense{} }, api.OK},
		{func(s *api.Sense) { s.Tick = -1; s.Reports = make([]api.Report, 5) }, api.ErrRange}, {func(s *api.Sense) { s.Tick = api.MaxTick + 1 }, api.ErrRange},
		{func(s *api.Sense) { s.Reports = append(s.Reports, s.Reports[0]); s.Drift = -1 }, api.ErrLimit}, {func(s *api.Sense) { s.Reports[1].Kind = 4; s.Drift = -1 }, api.ErrArg}, {func(s *api.Sense) { s.Reports[3].Value = 1; s.Alt = 1 << 40 }, api.ErrRange}, {func(s *api.Sense) { s.Reports[3].Source = 9 }, api.ErrArg},
		{func(s *api.Sense) { s.Velocity.East = -2001 }, api.ErrRange}, {func(s *api.Sense) { s.Velocity.North = 2001 }, api.ErrRange}, {func(s *api.Sense) { s.Drift = -1 }, api.ErrRange}, {func(s *api.Sense) { s.Drift = api.MaxDrift + 1 }, api.ErrRange}, {func(s *api.Sense) { s.Alt = api.MinAlt - 1 }, api.ErrRange}, {func(s *api.Sense) { s.Alt = api.MaxAlt + 1 }, api.ErrRange}, {func(s *api.Sense) { s.VS = -api.MaxRate - 1 }, api.ErrRange}, {func(s *api.Sense) { s.VS = api.MaxRate + 1 }, api.ErrRange}, {func(s *api.Sense) { s.CAS = -1 }, api.ErrRange}, {func(s *api.Sense) { s.CAS = api.MaxSpeed + 1 }, api.ErrRange}, {func(s *api.Sense) { s.Fuel = -1 }, api.ErrRange}, {func(s *api.Sense) { s.Fuel = api.MaxMass + 1; s.Command += "X" }, api.ErrRange},
		{func(s *api.Sense) { s.Command += "\n" }, api.ErrLimit}, {func(s *api.Sense) { s.Command = "A\x1F" }, api.ErrForm}, {func(s *api.Sense) { s.Command = "\x7F" }, api.ErrForm}, {func(s *api.Sense) { s.Command = "\xC3\xA4" }, api.ErrForm}, {func(s *api.Sense) { s.Fuel = math.MinInt64 }, api.ErrRange},
	} {
		s := fullSense()
		c.change(&s)
		if e := CheckSense(s); e != c.want {
			t.Errorf("case %d: %v", i, e)
		}
		p, e := Encode(s)
		if e != c.want || e != api.OK && len(p) > 0 {
			t.Errorf("Encode, case %d: %v", i, e)
		}
		if e != api.OK {
			continue
		}
		if got, f := Decode(p); f != api.OK || !reflect.DeepEqual(got, s) || len(p) > agree.MaxInput {
			t.Errorf("case %d: %v, %v, %d bytes", i, got, f, len(p))
		}
	}
}

// P57.1
func TestDecode(t *testing.T) {
	p, _ := Encode(fullSense())
	if q, _ := Encode(fullSense()); !bytes.Equal(p, q) {
		t.Errorf("other bytes")
	}
	if q, _ := Encode(api.Sense{Reports: []api.Report{}}); len(q) == 0 {
		t.Errorf("no reports")
	} else if r, _ := Encode(api.Sense{}); !bytes.Equal(q, r) {
		t.Errorf("no reports: other bytes")
	}
	for n := range len(p) {
		if s, e := Decode(p[:n]); e != api.ErrForm || !reflect.DeepEqual(s, api.Sense{}) {
			t.Errorf("%d bytes: %v", n, e)
		}
	}
	if _, e := Decode(append(bytes.Clone(p), 0)); e != api.ErrForm {
		t.Errorf("a byte too many: %v", e)
	}
	for at := range p {
		for bit := range 8 {
			q := bytes.Clone(p)
			q[at] ^= 1 << bit
			s, e := Decode(q)
			if e != api.OK {
				continue
			}
			if r, e := Encode(s); e != api.OK || !bytes.Equal(q, r) {
				t.Errorf("byte %d, bit %d: two inputs have the same bytes", at, bit)
			}
		}
	}
	for _, s := range []func(s *api.Sense){func(s *api.Sense) { s.Ground = false }, func(s *api.Sense) { s.Thrust = true }, func(s *api.Sense) { s.Stopped = false }, func(s *api.Sense) { s.Command = "" }, func(s *api.Sense) { s.VS++ }, func(s *api.Sense) { s.CAS-- }, func(s *api.Sense) { s.Reports[1].Weight++ }} {
		other := fullSense()
		s(&other)
		if q, _ := Encode(other); bytes.Equal(p, q) {
			t.Errorf("another input has the same bytes")
		}
	}
}
