package resync

import (
	"slices"

	"flightdeck/agree"
	"flightdeck/api"
	"flightdeck/octets"
)

// maxBase is the greatest number of steps that a snapshot can have.
const maxBase = 1 << 61

// maxPieces is how many pieces the longest snapshot has.
const maxPieces = (api.MaxSnapshot + api.MaxPiece - 1) / api.MaxPiece

// Piece is a piece of a snapshot: that of the state after Base steps, of Count pieces.
type Piece struct {
	Base         int64
	Index, Count int
	Data         []byte
}

// possible reports whether a snapshot can have so many steps.
func possible(base int64) bool { return base >= 1 && base <= maxBase }

// valid reports whether a piece has a payload.
func (p Piece) valid() bool {
	return possible(p.Base) && p.Count >= 1 && p.Count <= maxPieces && p.Index >= 0 && p.Index < p.Count && len(p.Data) <= api.MaxPiece
}

// clone returns a copy that shares no memory.
func (p Piece) clone() Piece {
	p.Data = slices.Clone(p.Data)
	return p
}

// Split returns the pieces of a snapshot.
func Split(base int64, data []byte) ([]Piece, api.Errno) {
	if !possible(base) {
		return nil, api.ErrArg
	}
	if len(data) > api.MaxSnapshot {
		return nil, api.ErrLimit
	}
	pieces := make([]Piece, max(1, (len(data)+api.MaxPiece-1)/api.MaxPiece))
	for i := range pieces {
		from := i * api.MaxPiece
		to := min(from+api.MaxPiece, len(data))
		pieces[i] = Piece{base, i, len(pieces), slices.Clone(data[from:to])}
	}
	return pieces, api.OK
}

// Encode returns the payload of a piece.
func Encode(p Piece) ([]byte, api.Errno) {
	if !p.valid() {
		return nil, api.ErrArg
	}
	var w octets.Writer
	w.Int(p.Base)
	w.Number(uint64(p.Index), 2)
	w.Number(uint64(p.Count), 2)
	w.Raw(p.Data)
	return w.Bytes(), api.OK
}

// Decode returns the piece of a payload.
func Decode(p []byte) (Piece, api.Errno) {
	r := octets.NewReader(p)
	x := Piece{Base: r.Int(), Index: int(r.Number(2)), Count: int(r.Number(2))}
	x.Data = r.Raw(r.Left())
	if r.Failed() || !x.valid() {
		return Piece{}, api.ErrForm
	}
	return x, api.OK
}

// Sender serves a snapshot piece by piece.
type Sender struct{ pieces []Piece }

// NewSender returns a sender that has no snapshot.
func NewSender() *Sender { return &Sender{} }

// Serve returns the piece that is wanted, or the first piece of a new snapshot.
func (s *Sender) Serve(w agree.Want, steps int64, save []byte) (Piece, api.Errno) {
	if s == nil {
		return Piece{}, api.ErrArg
	}
	if w.Have >= 0 && w.Have < len(s.pieces) && w.Base == s.pieces[0].Base {
		return s.pieces[w.Have].clone(), api.OK
	}
	pieces, e := Split(steps, save)
	if e != api.OK {
		return Piece{}, e
	}
	s.pieces = pieces
	return pieces[0].clone(), api.OK
}

// Reset forgets the snapshot.
func (s *Sender) Reset() {
	if s != nil {
		s.pieces = nil
	}
}

// Job is a snapshot and the input sets after it.
type Job struct {
	Base     int64
	Snapshot []byte
	Sets     []agree.Set
}

// Collector collects the pieces of a snapshot, and the input sets after it.
type Collector struct {
	pieces []Piece
	sets   []agree.Set
}

// NewCollector returns a collector that has nothing.
func NewCollector() *Collector { return &Collector{} }

// empty reports whether nothing is collected.
func (c *Collector) empty() bool { return c == nil || len(c.pieces) == 0 }

// Want returns what is to be asked for.
func (c *Collector) Want() agree.Want {
	if c.empty() {
		return agree.Want{}
	}
	return agree.Want{Base: c.pieces[0].Base, Have: len(c.pieces)}
}

// cloneSet returns a copy of a set that shares no memory.
func cloneSet(x agree.Set) agree.Set {
	x.In = slices.Clone(x.In)
	return x
}

// Note takes the input set of a cycle, if one came.
func (c *Collector) Note(x agree.Set, came bool) {
	if c.empty() {
		return
	}
	// A set beyond the pieces means that a cycle brought no piece.
	if !came || x.Fresh || x.Steps != c.pieces[0].Base+int64(len(c.sets)) || len(c.sets) >= len(c.pieces) {
		c.Reset()
		return
	}
	c.sets = append(c.sets, cloneSet(x))
}

// Take takes a piece.
func (c *Collector) Take(p Piece) {
	if c == nil || !p.valid() {
		return
	}
	if !c.empty() && p.Base == c.pieces[0].Base && p.Count == c.pieces[0].Count && p.Index == len(c.pieces) {
		c.pieces = append(c.pieces, p.clone())
	} else if p.Index == 0 {
		c.pieces, c.sets = []Piece{p.clone()}, nil
	}
}

// Job returns the job, if all pieces are there.
func (c *Collector) Job() (Job, bool) {
	if c.empty() || len(c.pieces) < c.pieces[0].Count {
		return Job{}, false
	}
	j := Job{Base: c.pieces[0].Base}
	for _, p := range c.pieces {
		j.Snapshot = append(j.Snapshot, p.Data...)
	}
	for _, x := range c.sets {
		j.Sets = append(j.Sets, cloneSet(x))
	}
	return j, true
}

// Reset forgets everything.
func (c *Collector) Reset() {
	if c != nil {
		c.pieces, c.sets = nil, nil
	}
}
