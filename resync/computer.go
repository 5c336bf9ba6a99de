package resync

import (
	"flightdeck/agree"
	"flightdeck/api"
)

// stage is the call that is the next one of a cycle.
type stage byte

const (
	hello stage = iota
	hear
	share
	step
	tell
	judge
	serve
	take
)

// Computer is the exchange of one of two computers with the transfer of snapshots.
type Computer struct {
	number    int
	node      *agree.Node
	sender    *Sender
	collector *Collector

	next  stage
	cycle int64
	asked bool // in this cycle, for what is wanted
	want  agree.Want
}

// NewComputer returns a computer that is out of step.
func NewComputer(number int) (*Computer, api.Errno) {
	node, e := agree.NewNode(number)
	if e != api.OK {
		return nil, e
	}
	return &Computer{number: number, node: node, sender: NewSender(), collector: NewCollector()}, api.OK
}

// Node returns a copy of the exchange of the computer.
func (c *Computer) Node() *agree.Node {
	if c == nil {
		return nil
	}
	return c.node.Clone()
}

// at returns the error of a call, which must be the next one.
func (c *Computer) at(s stage) api.Errno {
	if c == nil {
		return api.ErrArg
	}
	if c.next != s {
		return api.ErrState
	}
	return api.OK
}

// done ends a call: if it has no error, the one after it is the next one.
func (c *Computer) done(e api.Errno) {
	if e == api.OK {
		c.next = (c.next + 1) % (take + 1)
	}
}

// reset forgets what was served and collected.
func (c *Computer) reset() {
	c.sender.Reset()
	c.collector.Reset()
}

// meant reports whether a frame came, with this label, from the other computer and in this cycle.
func (c *Computer) meant(f api.Frame, came bool, label byte) bool {
	return came && f.Label == label && int(f.From) == 3-c.number && f.Cycle == c.cycle
}

// Hello begins a cycle and returns the first frame.
func (c *Computer) Hello(cycle int64, input []byte) (api.Frame, api.Errno) {
	if e := c.at(hello); e != api.OK {
		return api.Frame{}, e
	}
	var w agree.Want
	if c.node.Role() == agree.Out {
		w = c.collector.Want()
	}
	f, e := c.node.Hello(cycle, input, w)
	if e == api.OK {
		c.cycle = cycle
	}
	c.done(e)
	return f, e
}

// Hear takes the other's first frame, if one came.
func (c *Computer) Hear(f api.Frame, came bool) api.Errno {
	if e := c.at(hear); e != api.OK {
		return e
	}
	before := c.node.Role()
	h, heard, e := c.node.Hear(f, came)
	c.done(e)
	if e != api.OK {
		return e
	}
	if c.node.Role() != before {
		c.reset()
	}
	c.asked = c.node.Role() == agree.Leader && heard && h.Role == agree.Out
	c.want = h.Want
	return api.OK
}

// Share returns the second frame, if there is one.
func (c *Computer) Share() (api.Frame, bool, api.Errno) {
	if e := c.at(share); e != api.OK {
		return api.Frame{}, false, e
	}
	f, ok, e := c.node.Share()
	c.done(e)
	return f, ok, e
}

// Step takes the other's second frame, if one came, and returns the input set of the cycle, if there is one.
func (c *Computer) Step(f api.Frame, came bool) (agree.Set, bool, api.Errno) {
	if e := c.at(step); e != api.OK {
		return agree.Set{}, false, e
	}
	before := c.node.Role()
	x, ok, e := c.node.Step(f, came)
	c.done(e)
	if e == api.OK && c.node.Role() == agree.Out {
		if before != agree.Out {
			c.reset()
		}
		c.note(f, came)
	}
	return x, ok, e
}

// note takes the set of a frame for the collector.
func (c *Computer) note(f api.Frame, came bool) {
	if !c.meant(f, came, agree.SetLabel) {
		c.collector.Note(agree.Set{}, false)
		return
	}
	x, e := agree.GetSet(c.cycle, f.Payload)
	c.collector.Note(x, e == api.OK)
}

// Tell takes the targets of the step and returns the third frame, if there is one.
func (c *Computer) Tell(t api.Targets) (api.Frame, bool, api.Errno) {
	if e := c.at(tell); e != api.OK {
		return api.Frame{}, false, e
	}
	f, ok, e := c.node.Tell(t)
	c.done(e)
	return f, ok, e
}

// Judge takes the other's third frame, if one came, and returns the status.
func (c *Computer) Judge(f api.Frame, came bool) (byte, api.Errno) {
	if e := c.at(judge); e != api.OK {
		return 0, e
	}
	status, e := c.node.Judge(f, came)
	c.done(e)
	return status, e
}

// Serve returns the fourth frame, if the other one asked for a snapshot; save is the state of the machine.
func (c *Computer) Serve(save []byte) (api.Frame, bool, api.Errno) {
	if e := c.at(serve); e != api.OK {
		return api.Frame{}, false, e
	}
	c.done(api.OK) // also if the snapshot cannot be served
	if !c.asked {
		return api.Frame{}, false, api.OK
	}
	p, e := c.sender.Serve(c.want, c.node.Steps(), save)
	if e != api.OK {
		return api.Frame{}, false, e
	}
	payload, e := Encode(p)
	if e != api.OK { // not possible, as the piece is one of Split
		return api.Frame{}, false, e
	}
	return api.Frame{Label: agree.PieceLabel, From: byte(c.number), Cycle: c.cycle, Payload: payload}, true, api.OK
}

// Take takes the other's fourth frame, if one came, ends the cycle and returns a job, if a snapshot is complete.
func (c *Computer) Take(f api.Frame, came bool) (Job, bool, api.Errno) {
	if e := c.at(take); e != api.OK {
		return Job{}, false, e
	}
	c.done(api.OK)
	if c.node.Role() == agree.Out && c.meant(f, came, agree.PieceLabel) {
		if p, e := Decode(f.Payload); e == api.OK {
			c.collector.Take(p)
		}
	}
	j, ok := c.collector.Job()
	if !ok {
		return Job{}, false, api.OK
	}
	c.reset()
	if e := c.node.Adopt(j.Base + int64(len(j.Sets))); e != api.OK { // not possible, as only what is out collects
		return Job{}, false, e
	}
	return j, true, api.OK
}

// Drop puts the computer out of step.
func (c *Computer) Drop() {
	if c == nil {
		return
	}
	c.node.Drop()
	c.next = hello
	c.reset()
}
