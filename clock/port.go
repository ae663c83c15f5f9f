package clock

import (
	"slices"

	"carillon/api"
	"carillon/delay"
	"carillon/foreign"
	"carillon/peer"
	"carillon/port"
	"carillon/seq"
	"carillon/stamp"
	"carillon/timer"
)

// atOnce starts a timer that rings when it is next asked, which is in the same tick where it is one that sends.
const atOnce = 1

// path is what a sender told: by which clocks it hears of the best one.
type path struct {
	sender api.PortID
	clocks []uint64
}

// ownPort is a port of a clock.
type ownPort struct {
	self      api.PortID
	state     int
	table     *foreign.Table
	paths     []path // of all in the table
	receipt   timer.Timer
	qualify   timer.Timer
	announce  timer.Timer
	sync      timer.Timer
	ask       timer.Timer
	announces int
	syncs     int
	requests  int
	match     *seq.Match
	master    *delay.Exchange
	neighbour *peer.Exchange
	diff      maybe
	way       maybe   // to the neighbour
	asked     api.Msg // the last request of a neighbour's that was answered; of another type: none was
}

// newPort is a port that nothing has happened to.
func newPort(c api.Conf, number int) *ownPort {
	self := api.PortID{Clock: c.Clock, Port: number}
	return &ownPort{
		self:      self,
		state:     api.Initializing,
		table:     foreign.New(c.Clock, number, api.Window*stamp.Ticks(c.LogAnn)),
		match:     seq.New(),
		master:    delay.New(self, c.Domain),
		neighbour: peer.New(self, c.Domain),
	}
}

// clear forgets all that the port has heard and measured, and stops its timers.
func (p *ownPort) clear() {
	p.unhear()
	p.unmeasure()
	p.stop()
	p.ask.Stop()
	p.way = maybe{}
}

// unhear forgets whom the port has heard.
func (p *ownPort) unhear() {
	p.table.Clear()
	p.paths = nil
}

// unmeasure forgets what the port measures by its clock, which has been set or follows another one; the neighbour is as far off as ever.
func (p *ownPort) unmeasure() {
	p.unfollow()
	p.neighbour.Clear()
}

// unfollow forgets what is between the port and its master.
func (p *ownPort) unfollow() {
	p.match.Clear()
	p.master.Clear()
	p.diff = maybe{}
}

// stop stops the timers that belong to what the port is.
func (p *ownPort) stop() {
	p.receipt.Stop()
	p.qualify.Stop()
	p.announce.Stop()
	p.sync.Stop()
}

// has tells whether a sender is in the table.
func (p *ownPort) has(sender api.PortID) bool {
	return slices.ContainsFunc(p.table.Records(), func(r foreign.Record) bool { return r.Vector.Sender == sender })
}

// keep keeps the path that a sender told, and those of the others who are still in the table.
func (p *ownPort) keep(told path) {
	kept := []path{told}
	for _, x := range p.paths {
		if x.sender != told.sender && p.has(x.sender) {
			kept = append(kept, x)
		}
	}
	p.paths = kept
}

// number is the port's number for messages of a type; there is none for those that have the number of the one that they belong to.
func (p *ownPort) number(kind int) (*int, bool) {
	switch kind {
	case api.Announce:
		return &p.announces, true
	case api.Sync:
		return &p.syncs, true
	case api.DelayReq, api.PdelayReq:
		return &p.requests, true
	}
	return nil, false
}

// alive tells whether the port takes part.
func (p *ownPort) alive() bool { return port.Alive(p.state) }

// hears tells whether the port waits for announces.
func (p *ownPort) hears() bool { return port.Hears(p.state) }

// follows tells whether the port takes the time.
func (p *ownPort) follows() bool { return port.Follows(p.state) }
