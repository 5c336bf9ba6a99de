package path

import (
	"flightdeck/angle"
	"flightdeck/api"
	"flightdeck/fixed"
	"flightdeck/hold"
	"flightdeck/line"
	"flightdeck/resolve"
	"flightdeck/trig"
	"flightdeck/turn"
)

// leastRadius is the least radius of a turn that is narrower than the one for the speed.
const leastRadius = 600

// builder draws the elements of a path.
type builder struct {
	entries  []api.Entry
	tracks   []api.Track
	radius   int64
	elements []api.Element
	pen      api.Point
	mark     bool // the next element is behind a gap
	onTrack  bool // the pen is on the next track already
}

// Build returns the path of a plan from its active leg on, or the index of an entry and the error.
func Build(p api.Plan, from api.Point, course int64, o api.Options) (api.Path, int, api.Errno) {
	fail := func(i int, e api.Errno) (api.Path, int, api.Errno) { return api.Path{}, i, e }
	tracks, i, e := resolve.Tracks(p, from, course, o)
	if e != api.OK {
		return fail(i, e)
	}
	radius, e := turn.Radius(o.Speed, o.Bank)
	if e != api.OK {
		return fail(0, e)
	}
	b := &builder{entries: p.Entries, tracks: tracks, radius: radius, pen: from}
	for i := range tracks {
		if e := b.draw(i); e != api.OK {
			return fail(tracks[i].Entry, e)
		}
	}
	if len(b.elements) > maxElements {
		return fail(0, api.ErrLimit)
	}
	built := api.Path{Elements: b.elements}
	for _, x := range b.elements {
		built.Length += x.Length
	}
	return built, 0, api.OK
}

// leg returns the leg of a track.
func (b *builder) leg(x api.Track) api.Leg { return b.entries[x.Entry].Leg }

// draw draws a track.
func (b *builder) draw(i int) api.Errno {
	x := b.tracks[i]
	if x.Gap || i == 0 && b.leg(x).Type == api.IF {
		b.pen = x.A
		b.mark = x.Gap && len(b.elements) > 0
	}
	if !b.onTrack {
		b.line(x.A, x.Entry)
	}
	b.onTrack = false
	switch x.Kind {
	case api.CurvedTrack:
		b.arc(x.Circle, x.B, x.Entry)
	case api.PatternTrack:
		return b.pattern(x)
	default:
		b.onTrack = b.transition(i)
		if !b.onTrack {
			b.line(x.B, x.Entry)
		}
	}
	return api.OK
}

// add adds an element.
func (b *builder) add(x api.Element) {
	x.Gap = b.mark
	b.mark = false
	b.elements = append(b.elements, x)
}

// line draws a line to a point.
func (b *builder) line(q api.Point, entry int) {
	if b.pen != q {
		b.add(api.Element{A: b.pen, B: q, Length: line.Dist(b.pen, q), Entry: entry})
	}
	b.pen = q
}

// arc draws an arc to a point.
func (b *builder) arc(a api.Arc, q api.Point, entry int) {
	length := turn.Length(a)
	if length < 1 {
		b.line(q, entry)
		return
	}
	b.add(api.Element{Curved: true, A: b.pen, B: q, Circle: a, Length: length, Entry: entry})
	b.pen = q
}

// pattern draws a holding pattern with its entry, or a procedure turn.
func (b *builder) pattern(x api.Track) api.Errno {
	l := b.leg(x)
	var elements []api.Element
	var e api.Errno
	if l.Type == api.PI {
		elements, e = hold.Reversal(x.A, l.Course, l.Turn, l.Dist, b.radius)
	} else {
		elements, e = hold.Enter(hold.Entry(x.In, l.Course, l.Turn), x.A, l.Course, l.Turn, l.Dist, b.radius)
		if e == api.OK {
			var round []api.Element
			round, e = hold.Pattern(x.A, l.Course, l.Turn, l.Dist, b.radius)
			elements = append(elements, round...)
		}
	}
	if e != api.OK {
		return e
	}
	for _, y := range elements {
		if y.Length >= 1 {
			y.Entry = x.Entry
			b.add(y)
		}
	}
	return api.OK
}

// transition draws the way from a track to the one behind it, if that is not just the point between them.
func (b *builder) transition(i int) bool {
	if i+1 == len(b.tracks) || b.tracks[i+1].Gap {
		return false
	}
	x, y := b.tracks[i], b.tracks[i+1]
	if x.Kind != api.StraightTrack || y.Kind != api.StraightTrack || x.Length < 1 || y.Length < 1 || y.A != x.B {
		return false
	}
	if b.leg(x).Over {
		return b.leg(y).Type == api.DF && b.flyOver(i)
	}
	switch b.leg(x).Type {
	case api.CI, api.CA, api.CD, api.CR, api.FA, api.FC:
		return false
	}
	return b.flyBy(x, y)
}

// flyBy draws a turn that leaves one track ahead of its end and joins the next one behind its beginning.
func (b *builder) flyBy(x, y api.Track) bool {
	limit := min(x.Length/2, y.Length/2)
	in, _ := line.Course(x.A, x.B)
	out, _ := line.Course(y.A, y.B)
	d := angle.Diff(in, out)
	if d == 0 || fixed.Abs(d) > turn.MaxTurn {
		return false
	}
	h := fixed.Abs(d) / 2
	lead, _ := fixed.MulDivUp(b.radius, trig.Sin(h), trig.Cos(h))
	radius := b.radius
	if lead > limit {
		radius, _ = fixed.MulDiv(b.radius, limit, lead)
		if radius != b.radius && radius < leastRadius {
			return false
		}
	}
	f, e := turn.FlyBy(x.A, x.B, y.B, radius)
	if e != api.OK || f.Lead == 0 || f.Lead > limit {
		return false
	}
	// The waypoint is passed in the middle of the turn: its second half belongs to the next entry.
	first, second := f.Arc, f.Arc
	first.Sweep = f.Arc.Sweep / 2
	second.Sweep -= first.Sweep
	second.From = angle.Turn(first.From, first.Sweep)
	middle, _, e := turn.At(first, turn.Length(first))
	if e != api.OK {
		return false
	}
	b.line(f.Start, x.Entry)
	b.arc(first, middle, x.Entry)
	b.arc(second, f.End, y.Entry)
	return true
}

// flyOver draws a turn behind the end of a track that leads direct to the end of the next one.
func (b *builder) flyOver(i int) bool {
	x, y := b.tracks[i], b.tracks[i+1]
	d := angle.Diff(x.Out, y.In)
	if d == 0 {
		return false
	}
	side, to := byte(api.Right), angle.Turn(x.Out, api.Quarter)
	if d < 0 {
		side, to = api.Left, angle.Opposite(to)
	}
	center, e := line.Ray(x.B, to, b.radius)
	if e != api.OK {
		return false
	}
	t, e := turn.Tangent(center, b.radius, side, y.B)
	if e != api.OK {
		return false
	}
	a, e := turn.Around(x.B, center, t, side)
	if e != api.OK {
		return false
	}
	b.line(x.B, x.Entry)
	b.arc(a, t, y.Entry)
	y.A, y.Length = t, line.Dist(t, y.B)
	if t != y.B {
		y.In, _ = line.Course(t, y.B)
	}
	y.Out = y.In
	b.tracks[i+1] = y
	return true
}
