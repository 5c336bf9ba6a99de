package unit

import (
	"flightdeck/api"
	"flightdeck/fuel"
	"flightdeck/path"
	"flightdeck/predict"
	"flightdeck/sequence"
)

// beginning is where a path begins.
type beginning struct {
	point             api.Point
	course, alt, fuel int64
	active            int // the active leg of the plan at that time
}

// flight is the path, with the progress along it and the prediction. Its nodes are the beginning and the ends of entries.
type flight struct {
	there    bool
	begin    beginning
	path     api.Path
	progress api.Progress

	nodes      []api.Node
	entries    []int // of the nodes behind the first one
	prediction api.Prediction
	trouble    api.Errno // of the prediction
}

// fly returns the flight along a plan from a beginning.
func fly(p api.Plan, b beginning, set api.Setting) (flight, api.Errno) {
	p.Active = b.active
	built, _, e := path.Build(p, b.point, b.course, set.Options)
	if e != api.OK {
		return flight{}, e
	}
	f := flight{there: true, begin: b, path: built}
	if len(built.Elements) > 0 {
		f.progress, _ = sequence.Start(built, 0)
	}
	f.place(p)
	f.predict(set)
	return f, api.OK
}

// place finds the nodes, up to the first gap.
func (f *flight) place(p api.Plan) {
	f.nodes = []api.Node{{At: f.begin.point, Alt: api.Window{Lo: f.begin.alt, Hi: f.begin.alt}, Speed: api.Window{Hi: api.MaxSpeed}}}
	for _, x := range f.path.Elements {
		if x.Gap {
			break
		}
		if n := len(f.entries); n == 0 || f.entries[n-1] != x.Entry {
			l := p.Entries[x.Entry].Leg
			speeds := api.Window{Hi: l.Speed}
			if l.Speed == 0 {
				speeds.Hi = api.MaxSpeed
			}
			f.entries = append(f.entries, x.Entry)
			f.nodes = append(f.nodes, api.Node{Alt: l.Alt, Speed: speeds})
		}
		node := &f.nodes[len(f.nodes)-1]
		node.At = x.B
		node.Dist += x.Length
	}
}

// predict predicts the flight to the nodes.
func (f *flight) predict(set api.Setting) {
	if len(f.nodes) < 2 {
		f.trouble = api.ErrNone
		return
	}
	account, e := fuel.New(set.Empty, f.begin.fuel, set.Reserve)
	if e != api.OK {
		f.trouble = e
		return
	}
	f.prediction, f.trouble = predict.Run(api.Setup{
		Nodes: f.nodes, Perf: set.Perf, Grid: set.Grid, Fuel: account, Level: set.Level, CAS: set.CAS, Mach: set.Mach,
		Accel: set.Accel, Decel: set.Decel, LimitAlt: set.LimitAlt, LimitSpeed: set.LimitSpeed,
	})
}

// predicted reports whether there is a prediction.
func (f *flight) predicted() bool { return len(f.prediction.Passages) > 0 }

// dists returns the lengths of the legs of the prediction.
func (f *flight) dists() []int64 {
	var l []int64
	for i, n := range f.nodes {
		if i > 0 {
			l = append(l, n.Dist)
		}
	}
	return l
}

// current returns the current element, if there is one.
func (f *flight) current() (api.Element, bool) {
	if len(f.path.Elements) == 0 || f.progress.Done {
		return api.Element{}, false
	}
	return f.path.Elements[f.progress.Element], true
}

// along returns the distance along the path of a point at the current element.
func (f *flight) along(q api.Point) int64 {
	var sum int64
	for i, x := range f.path.Elements {
		if i == f.progress.Element {
			_, d, _ := path.Locate(x, q)
			return sum + min(max(d, 0), x.Length)
		}
		sum += x.Length
	}
	return sum
}

// descending reports whether the predicted flight descends behind a distance.
func (f *flight) descending(along int64) bool {
	var at int64
	for i, p := range f.prediction.Passages {
		at += f.nodes[i].Dist
		if at > along {
			return p.Phase == descent
		}
	}
	return false
}

// descent is the phase of a passage behind a descent.
const descent = 3

// ended reports whether the progress is done, and more of the path follows, or not.
func (f *flight) ended(more bool) bool {
	n := len(f.path.Elements)
	return n > 0 && f.progress.Done && (f.progress.Element+1 < n) == more
}
