package agree

import (
	"slices"

	"flightdeck/api"
	"flightdeck/octets"
)

// Labels of the frames of a cycle.
const (
	HelloLabel byte = 1 + iota
	SetLabel
	ResultLabel
	PieceLabel
)

// maxHave is the greatest number of pieces that a computer can say that it has.
const maxHave = 1<<16 - 1

// Want is what a computer that is out of step asks for: the next piece of a snapshot.
type Want struct {
	Base int64
	Have int
}

// Heard is the content of a hello frame.
type Heard struct {
	Role  byte
	Steps int64
	Want  Want
	Input []byte
}

// Set is the input set of a cycle: the steps before it, whether the machine begins afresh, and the bytes that it is stepped with.
type Set struct {
	Steps, Cycle int64
	Fresh        bool
	In           []byte
}

// Result is the content of a result frame.
type Result struct {
	Steps   int64
	Targets api.Targets
}

// clone returns a copy that shares no memory.
func (h Heard) clone() Heard {
	h.Input = slices.Clone(h.Input)
	return h
}

// check returns the first error of the content of a hello frame.
func (h Heard) check() api.Errno {
	if h.Role < Out || h.Role > Follower || h.Steps < 0 || h.Want.Base < 0 || h.Want.Have < 0 || h.Want.Have > maxHave {
		return api.ErrArg
	}
	if len(h.Input) > MaxInput {
		return api.ErrLimit
	}
	return api.OK
}

// PutHello returns the payload of a hello frame.
func PutHello(h Heard) ([]byte, api.Errno) {
	if e := h.check(); e != api.OK {
		return nil, e
	}
	var w octets.Writer
	w.Byte(h.Role)
	w.Int(h.Steps)
	w.Int(h.Want.Base)
	w.Number(uint64(h.Want.Have), 2)
	w.Raw(h.Input)
	return w.Bytes(), api.OK
}

// GetHello returns the content of a hello frame.
func GetHello(p []byte) (Heard, api.Errno) {
	r := octets.NewReader(p)
	h := Heard{Role: r.Byte(), Steps: r.Int(), Want: Want{Base: r.Int(), Have: int(r.Number(2))}}
	h.Input = r.Raw(r.Left())
	if r.Failed() || h.check() != api.OK {
		return Heard{}, api.ErrForm
	}
	return h, api.OK
}

// Pack returns the bytes that a machine is stepped with: both inputs, either of which may be absent.
func Pack(one []byte, isOne bool, two []byte, isTwo bool) ([]byte, api.Errno) {
	if isOne && len(one) > MaxInput || isTwo && len(two) > MaxInput {
		return nil, api.ErrLimit
	}
	var there byte
	if isOne {
		there |= 1
	}
	if isTwo {
		there |= 2
	}
	var w octets.Writer
	w.Byte(there)
	if isOne {
		w.Text(string(one), 2)
	}
	if isTwo {
		w.Text(string(two), 2)
	}
	return w.Bytes(), api.OK
}

// Unpack returns the two inputs.
func Unpack(in []byte) (one []byte, isOne bool, two []byte, isTwo bool, e api.Errno) {
	r := octets.NewReader(in)
	there := r.Byte()
	isOne, isTwo = there&1 != 0, there&2 != 0
	if isOne {
		one = r.Raw(int(r.Number(2)))
	}
	if isTwo {
		two = r.Raw(int(r.Number(2)))
	}
	if !r.Done() || there > 3 || len(one) > MaxInput || len(two) > MaxInput {
		return nil, false, nil, false, api.ErrForm
	}
	return one, isOne, two, isTwo, api.OK
}

// check returns the first error of a set.
func (x Set) check() api.Errno {
	if x.Steps < 0 {
		return api.ErrArg
	}
	_, _, _, _, e := Unpack(x.In)
	return e
}

// PutSet returns the payload of a set frame.
func PutSet(x Set) ([]byte, api.Errno) {
	if e := x.check(); e != api.OK {
		return nil, e
	}
	var w octets.Writer
	w.Int(x.Steps)
	w.Bool(x.Fresh)
	w.Raw(x.In)
	return w.Bytes(), api.OK
}

// GetSet returns the set of a set frame.
func GetSet(cycle int64, p []byte) (Set, api.Errno) {
	r := octets.NewReader(p)
	x := Set{Steps: r.Int(), Cycle: cycle, Fresh: r.Bool()}
	x.In = r.Raw(r.Left())
	if r.Failed() || x.check() != api.OK {
		return Set{}, api.ErrForm
	}
	return x, api.OK
}

// PutResult returns the payload of a result frame.
func PutResult(r Result) []byte {
	var w octets.Writer
	w.Int(r.Steps)
	t := r.Targets
	w.Raw([]byte{t.Lateral, t.Vertical, t.Phase})
	for _, v := range [4]int64{t.Bank, t.Speed, t.Alt, t.VS} {
		w.Int(v)
	}
	return w.Bytes()
}

// GetResult returns the content of a result frame.
func GetResult(p []byte) (Result, api.Errno) {
	r := octets.NewReader(p)
	x := Result{Steps: r.Int()}
	x.Targets = api.Targets{Lateral: r.Byte(), Vertical: r.Byte(), Phase: r.Byte(), Bank: r.Int(), Speed: r.Int(), Alt: r.Int(), VS: r.Int()}
	if !r.Done() {
		return Result{}, api.ErrForm
	}
	return x, api.OK
}
