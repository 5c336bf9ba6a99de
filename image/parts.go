package image

import (
	"flightdeck/api"
	"flightdeck/octets"
)

// writer writes the elements of a database.
type writer struct{ octets.Writer }

// section writes a section with what put writes as its content.
func (w *writer) section(tag byte, put func(c *writer)) {
	content := &writer{}
	put(content)
	w.Byte(tag)
	w.Number(uint64(content.Len()), lengthWidth)
	w.Raw(content.Bytes())
}

// putList writes a list with a method for its elements.
func putList[T any](w *writer, l []T, element func(*writer, T)) {
	w.Number(uint64(len(l)), countWidth)
	for _, x := range l {
		element(w, x)
	}
}

func (w *writer) header(h api.Header) {
	w.Text(h.Name, stringWidth)
	w.ints(h.Cycle, h.From, h.To, h.Origin.Lat, h.Origin.Lon)
}

func (w *writer) ints(l ...int64) {
	for _, v := range l {
		w.Int(v)
	}
}

func (w *writer) fix(f api.Fix) {
	w.Text(f.Ident, stringWidth)
	w.Text(f.Region, stringWidth)
	w.Byte(byte(f.Kind))
	w.ints(f.Pos.Lat, f.Pos.Lon, f.Elev, f.Range)
}

func (w *writer) airway(a api.Airway) {
	w.Text(a.Name, stringWidth)
	putList(w, a.Points, (*writer).point)
}

func (w *writer) point(p api.AirwayPoint) {
	w.Text(p.Ref, stringWidth)
	w.ints(p.Alt.Lo, p.Alt.Hi)
	w.Byte(p.Dir)
}

func (w *writer) procedure(p api.Procedure) {
	w.Text(p.Airport, stringWidth)
	w.Text(p.Name, stringWidth)
	w.Byte(byte(p.Kind))
	putList(w, p.Parts, (*writer).part)
}

func (w *writer) part(p api.Part) {
	w.Byte(byte(p.Kind))
	w.Text(p.Name, stringWidth)
	putList(w, p.Legs, (*writer).leg)
}

func (w *writer) leg(l api.Leg) {
	w.Byte(byte(l.Type))
	w.Text(l.Fix, stringWidth)
	w.Text(l.Center, stringWidth)
	w.Byte(l.Turn)
	w.Bool(l.Over)
	w.ints(l.Course, l.Dist, l.Radius, l.Theta, l.Alt.Lo, l.Alt.Hi, l.Speed, l.RNP)
}

// reader reads the elements of a database, and notes the sections.
type reader struct {
	*octets.Reader
	size     int
	sections []Section
}

// section reads a section with a tag; take reads its content and returns the number of its elements.
func (r *reader) section(tag byte, take func() int) {
	if r.Byte() != tag {
		r.Fail()
	}
	length := int(r.Number(lengthWidth))
	offset := r.size - r.Left()
	count := take()
	if r.size-r.Left() != offset+length {
		r.Fail()
	}
	r.sections = append(r.sections, Section{Tag: tag, Offset: offset, Length: length, Count: count})
}

// list reads a list with a method for its elements.
func list[T any](r *reader, element func(*reader) T) []T {
	var l []T
	for range r.Number(countWidth) {
		x := element(r)
		if r.Failed() {
			return nil
		}
		l = append(l, x)
	}
	return l
}

func (r *reader) header() api.Header {
	return api.Header{Name: r.Text(stringWidth), Cycle: r.Int(), From: r.Int(), To: r.Int(), Origin: r.pos()}
}

func (r *reader) pos() api.Pos { return api.Pos{Lat: r.Int(), Lon: r.Int()} }

func (r *reader) window() api.Window { return api.Window{Lo: r.Int(), Hi: r.Int()} }

func (r *reader) fix() api.Fix {
	return api.Fix{Ident: r.Text(stringWidth), Region: r.Text(stringWidth), Kind: api.Kind(r.Byte()), Pos: r.pos(), Elev: r.Int(), Range: r.Int()}
}

func (r *reader) airway() api.Airway {
	return api.Airway{Name: r.Text(stringWidth), Points: list(r, (*reader).point)}
}

func (r *reader) point() api.AirwayPoint {
	return api.AirwayPoint{Ref: r.Text(stringWidth), Alt: r.window(), Dir: r.Byte()}
}

func (r *reader) procedure() api.Procedure {
	return api.Procedure{Airport: r.Text(stringWidth), Name: r.Text(stringWidth), Kind: api.ProcKind(r.Byte()), Parts: list(r, (*reader).part)}
}

func (r *reader) part() api.Part {
	return api.Part{Kind: api.PartKind(r.Byte()), Name: r.Text(stringWidth), Legs: list(r, (*reader).leg)}
}

func (r *reader) leg() api.Leg {
	return api.Leg{Type: api.LegType(r.Byte()), Fix: r.Text(stringWidth), Center: r.Text(stringWidth), Turn: r.Byte(), Over: r.Bool(),
		Course: r.Int(), Dist: r.Int(), Radius: r.Int(), Theta: r.Int(), Alt: r.window(), Speed: r.Int(), RNP: r.Int()}
}
