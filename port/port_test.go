package port

import (
	"math"
	"slices"
	"strings"
	"testing"

	"carillon/api"
	"carillon/decide"
)

// names are those of the nine states, from 1 on.
var names = []string{"initializing", "faulty", "disabled", "listening", "premaster", "master", "passive", "uncalibrated", "slave"}

// events are the eight of them, from 1 on.
var events = []string{"power", "fault", "cleared", "timeout", "qualified", "selected", "disable", "enable"}

// decisions are the seven of them, from 1 on.
var decisions = []string{"M1", "M2", "M3", "P1", "P2", "S1", "L0"}

// behind tells for each state, in the first column, what it is behind each event.
const behind = `
initializing  listening     faulty    initializing  initializing  initializing  initializing  disabled  initializing
faulty        faulty        faulty    initializing  faulty        faulty        faulty        disabled  faulty
disabled      disabled      disabled  disabled      disabled      disabled      disabled      disabled  initializing
listening     listening     faulty    listening     master        listening     listening     disabled  listening
premaster     premaster     faulty    premaster     premaster     master        premaster     disabled  premaster
master        master        faulty    master        master        master        master        disabled  master
passive       passive       faulty    passive       master        passive       passive       disabled  passive
uncalibrated  uncalibrated  faulty    uncalibrated  master        uncalibrated  slave         disabled  uncalibrated
slave         slave         faulty    slave         master        slave         slave         disabled  slave
`

// behindOfSlaveOnly likewise, of a clock that never leads.
const behindOfSlaveOnly = `
initializing  listening     faulty    initializing  initializing  initializing  initializing  disabled  initializing
faulty        faulty        faulty    initializing  faulty        faulty        faulty        disabled  faulty
disabled      disabled      disabled  disabled      disabled      disabled      disabled      disabled  initializing
listening     listening     faulty    listening     listening     listening     listening     disabled  listening
premaster     premaster     faulty    premaster     premaster     master        premaster     disabled  premaster
master        master        faulty    master        master        master        master        disabled  master
passive       passive       faulty    passive       listening     passive       passive       disabled  passive
uncalibrated  uncalibrated  faulty    uncalibrated  listening     uncalibrated  slave         disabled  uncalibrated
slave         slave         faulty    slave         listening     slave         slave         disabled  slave
`

// decided tells for each state what it is behind each decision, of another master than before.
const decided = `
initializing  initializing  initializing  initializing  initializing  initializing  initializing  initializing
faulty        faulty        faulty        faulty        faulty        faulty        faulty        faulty
disabled      disabled      disabled      disabled      disabled      disabled      disabled      disabled
listening     master        master        premaster     passive       passive       uncalibrated  listening
premaster     master        master        premaster     passive       passive       uncalibrated  premaster
master        master        master        master        passive       passive       uncalibrated  master
passive       master        master        premaster     passive       passive       uncalibrated  passive
uncalibrated  master        master        premaster     passive       passive       uncalibrated  uncalibrated
slave         master        master        premaster     passive       passive       uncalibrated  slave
`

// decidedSame likewise, of the same master as before.
const decidedSame = `
initializing  initializing  initializing  initializing  initializing  initializing  initializing  initializing
faulty        faulty        faulty        faulty        faulty        faulty        faulty        faulty
disabled      disabled      disabled      disabled      disabled      disabled      disabled      disabled
listening     master        master        premaster     passive       passive       uncalibrated  listening
premaster     master        master        premaster     passive       passive       uncalibrated  premaster
master        master        master        master        passive       passive       uncalibrated  master
passive       master        master        premaster     passive       passive       uncalibrated  passive
uncalibrated  master        master        premaster     passive       passive       uncalibrated  uncalibrated
slave         master        master        premaster     passive       passive       slave         slave
`

// decidedOfSlaveOnly likewise, of another master, and of a clock that never leads.
const decidedOfSlaveOnly = `
initializing  initializing  initializing  initializing  initializing  initializing  initializing  initializing
faulty        faulty        faulty        faulty        faulty        faulty        faulty        faulty
disabled      disabled      disabled      disabled      disabled      disabled      disabled      disabled
listening     listening     listening     listening     listening     listening     uncalibrated  listening
premaster     listening     listening     listening     listening     listening     uncalibrated  premaster
master        listening     listening     listening     listening     listening     uncalibrated  master
passive       listening     listening     listening     listening     listening     uncalibrated  passive
uncalibrated  listening     listening     listening     listening     listening     uncalibrated  uncalibrated
slave         listening     listening     listening     listening     listening     uncalibrated  slave
`

// decidedSameOfSlaveOnly likewise, of the same master, and of a clock that never leads.
const decidedSameOfSlaveOnly = `
initializing  initializing  initializing  initializing  initializing  initializing  initializing  initializing
faulty        faulty        faulty        faulty        faulty        faulty        faulty        faulty
disabled      disabled      disabled      disabled      disabled      disabled      disabled      disabled
listening     listening     listening     listening     listening     listening     uncalibrated  listening
premaster     listening     listening     listening     listening     listening     uncalibrated  premaster
master        listening     listening     listening     listening     listening     uncalibrated  master
passive       listening     listening     listening     listening     listening     uncalibrated  passive
uncalibrated  listening     listening     listening     listening     listening     uncalibrated  uncalibrated
slave         listening     listening     listening     listening     listening     slave         slave
`

// table reads one of these: a row for each state, a column for each thing that may turn it.
func table(t *testing.T, text string, columns int) [][]int {
	t.Helper()
	var l [][]int
	for line := range strings.Lines(strings.TrimSpace(text)) {
		var row []int
		for _, word := range strings.Fields(line) {
			row = append(row, slices.Index(names, word)+1)
		}
		if len(row) != columns+1 || row[0] != len(l)+1 || slices.Contains(row, 0) {
			t.Fatalf("no row of the table: %q", line)
		}
		l = append(l, row)
	}
	if len(l) != len(names) {
		t.Fatalf("%d rows", len(l))
	}
	return l
}

// strange are numbers that are none from 1 to most, those at both ends of an int, too.
func strange(most int) []int {
	l := []int{
		math.MinInt, math.MinInt + 1, math.MinInt + most, -1 << 62, -1<<32 - 1, -1 << 32, -1<<32 + 1, -1 << 31, -65536, -257, -256, -255,
		255, 256, 257, 65535, 65536, 65537, 1<<31 - 1, 1 << 31, 1 << 32, 1<<32 + 1, 1<<32 + most, 1 << 62, 1<<62 + 1, math.MaxInt - 1, math.MaxInt,
	}
	for n := -100; n <= 0; n++ {
		l = append(l, n)
	}
	for n := most + 1; n <= 100; n++ {
		l = append(l, n)
	}
	return l
}

// draw draws numbers below n, the same ones in each run.
func draw(seed uint64) func(n int) int {
	return func(n int) int {
		seed = seed*6364136223846793005 + 1442695040888963407
		return int(seed>>33) % n
	}
}

// next asks for Next.
func next(t *testing.T, state, event int, slaveOnly bool, want int) {
	t.Helper()
	if got := Next(state, event, slaveOnly); got != want {
		t.Errorf("Next(%d, %d, %t): %d, not %d", state, event, slaveOnly, got, want)
	}
}

// decides asks for Decided.
func decides(t *testing.T, state, decision int, same, slaveOnly bool, want int) {
	t.Helper()
	if got := Decided(state, decision, same, slaveOnly); got != want {
		t.Errorf("Decided(%d, %d, %t, %t): %d, not %d", state, decision, same, slaveOnly, got, want)
	}
}

func TestExample(t *testing.T) {
	next(t, api.Listening, Timeout, false, api.Master)
}

// TestNumbers asks that states, events and decisions have the numbers that the tables of these tests take for theirs.
func TestNumbers(t *testing.T) {
	if l := []int{Power, Fault, Cleared, Timeout, Qualified, Selected, Disable, Enable}; !slices.Equal(l, []int{1, 2, 3, 4, 5, 6, 7, 8}) || len(l) != len(events) {
		t.Error(l)
	}
	if l := []int{api.Initializing, api.Faulty, api.Disabled, api.Listening, api.PreMaster, api.Master, api.Passive, api.Uncalibrated, api.Slave}; !slices.Equal(l, []int{1, 2, 3, 4, 5, 6, 7, 8, 9}) || len(l) != len(names) {
		t.Error(l)
	}
	if l := []int{api.M1, api.M2, api.M3, api.P1, api.P2, api.S1, api.L0}; !slices.Equal(l, []int{1, 2, 3, 4, 5, 6, 7}) || len(l) != len(decisions) {
		t.Error(l)
	}
}

// TestNext asks for each state behind each event.
func TestNext(t *testing.T) {
	for _, x := range []struct {
		text      string
		slaveOnly bool
	}{{behind, false}, {behindOfSlaveOnly, true}} {
		for _, row := range table(t, x.text, len(events)) {
			for i, want := range row[1:] {
				if got := Next(row[0], i+1, x.slaveOnly); got != want {
					t.Errorf("%s behind %s, slave only %t: %s, not %s", Name(row[0]), events[i], x.slaveOnly, Name(got), Name(want))
				}
			}
		}
	}
}

// TestNoEvent asks that what is no event turns no state, be it one or none.
func TestNoEvent(t *testing.T) {
	for _, event := range strange(len(events)) {
		for _, slaveOnly := range []bool{false, true} {
			for state := range len(names) {
				next(t, state+1, event, slaveOnly, state+1)
			}
			for _, state := range strange(len(names)) {
				next(t, state, event, slaveOnly, state)
			}
		}
	}
}

// TestNoState asks that what is no state stays, but for what turns every one.
func TestNoState(t *testing.T) {
	for _, state := range strange(len(names)) {
		for _, slaveOnly := range []bool{false, true} {
			next(t, state, Power, slaveOnly, state)
			next(t, state, Fault, slaveOnly, api.Faulty)
			next(t, state, Cleared, slaveOnly, state)
			next(t, state, Timeout, slaveOnly, state)
			next(t, state, Qualified, slaveOnly, state)
			next(t, state, Selected, slaveOnly, state)
			next(t, state, Disable, slaveOnly, api.Disabled)
			next(t, state, Enable, slaveOnly, state)
		}
	}
}

// TestDecided asks for each state behind each decision.
func TestDecided(t *testing.T) {
	for _, x := range []struct {
		text            string
		same, slaveOnly bool
	}{{decided, false, false}, {decidedSame, true, false}, {decidedOfSlaveOnly, false, true}, {decidedSameOfSlaveOnly, true, true}} {
		for _, row := range table(t, x.text, len(decisions)) {
			for i, want := range row[1:] {
				if got := Decided(row[0], i+1, x.same, x.slaveOnly); got != want {
					t.Errorf("%s behind %s, same %t, slave only %t: %s, not %s", Name(row[0]), decisions[i], x.same, x.slaveOnly, Name(got), Name(want))
				}
			}
		}
	}
}

// anyhow asks for Decided with each of same and slave only.
func anyhow(t *testing.T, state, decision, want int) {
	t.Helper()
	for i := range 4 {
		decides(t, state, decision, i&1 == 1, i&2 == 2, want)
	}
}

// TestNoDecision asks that what is no decision turns no state, also of a clock that never leads.
func TestNoDecision(t *testing.T) {
	for _, decision := range strange(len(decisions)) {
		for state := range len(names) {
			anyhow(t, state+1, decision, state+1)
		}
		for _, state := range strange(len(names)) {
			anyhow(t, state, decision, state)
		}
	}
}

// TestNotAlive asks that a decision turns no port that is not alive.
func TestNotAlive(t *testing.T) {
	states := append(strange(len(names)), api.Initializing, api.Faulty, api.Disabled)
	for _, state := range states {
		for decision := range len(decisions) {
			anyhow(t, state, decision+1, state)
		}
	}
}

// TestNamedDecisions asks that the decisions are just those that layer 13 has: a new master is followed, or a port that follows leaves it.
func TestNamedDecisions(t *testing.T) {
	for decision := -300; decision <= 300; decision++ {
		turns := Decided(api.Slave, decision, false, false) != api.Slave
		text := decide.Text(decision)
		if turns != (text != "" && text != "L0") {
			t.Errorf("decision %d, %q: a slave turns: %t", decision, text, turns)
		}
	}
}

// TestDecidedByLayer13 asks what becomes of ports that layer 13 decides of.
func TestDecidedByLayer13(t *testing.T) {
	own := api.Vector{Priority1: 128, Quality: api.Quality{Class: 248}, Grand: 9}
	heard := func(priority1 int, sender uint64, n int) *api.Vector {
		return &api.Vector{Priority1: priority1, Grand: 5, Sender: api.PortID{Clock: sender, Port: 1}, Receiver: api.PortID{Clock: 9, Port: n}}
	}
	ports := []*api.Vector{nil, heard(10, 5, 2), heard(10, 6, 3), heard(200, 7, 4), nil}
	listening := []bool{true, true, true, true, false}
	all, place := decide.All(own, listening, ports)
	var states []int
	for _, d := range all {
		states = append(states, Decided(api.Listening, d, false, false))
	}
	if want := []int{api.Listening, api.Uncalibrated, api.Passive, api.PreMaster, api.PreMaster}; place != 1 || !slices.Equal(states, want) {
		t.Errorf("%v by %v, not %v", states, all, want)
	}
}

// TestSorts asks how far a port takes part in each state.
func TestSorts(t *testing.T) {
	for i, x := range []struct{ alive, hears, follows bool }{
		{false, false, false}, // initializing
		{false, false, false}, // faulty
		{false, false, false}, // disabled
		{true, true, false},   // listening
		{true, false, false},  // premaster
		{true, false, false},  // master
		{true, true, false},   // passive
		{true, true, true},    // uncalibrated
		{true, true, true},    // slave
	} {
		if state := i + 1; Alive(state) != x.alive || Hears(state) != x.hears || Follows(state) != x.follows {
			t.Errorf("%s: %t, %t, %t, not %v", names[i], Alive(state), Hears(state), Follows(state), x)
		}
	}
	for _, state := range strange(len(names)) {
		if Alive(state) || Hears(state) || Follows(state) {
			t.Errorf("%d: %t, %t, %t", state, Alive(state), Hears(state), Follows(state))
		}
	}
}

// TestName asks for each state's name.
func TestName(t *testing.T) {
	for i, name := range names {
		if got := Name(i + 1); got != name {
			t.Errorf("%d: %q, not %q", i+1, got, name)
		}
	}
	for _, state := range strange(len(names)) {
		if got := Name(state); got != "" {
			t.Errorf("%d: %q", state, got)
		}
	}
}

// TestLives leads ports through drawn events and decisions: each step is one of the tables', and who never leads never waits to.
func TestLives(t *testing.T) {
	n := draw(21)
	for life := range 400 {
		slaveOnly := life%2 == 1
		events, same, other := table(t, behind, len(events)), table(t, decidedSame, len(decisions)), table(t, decided, len(decisions))
		if slaveOnly {
			events, same, other = table(t, behindOfSlaveOnly, 8), table(t, decidedSameOfSlaveOnly, 7), table(t, decidedOfSlaveOnly, 7)
		}
		state := api.Initializing
		for range 200 {
			old, want := state, 0
			switch n(4) {
			case 0:
				event := n(8) + 1
				state, want = Next(old, event, slaveOnly), events[old-1][event]
			case 1:
				decision := n(7) + 1
				state, want = Decided(old, decision, true, slaveOnly), same[old-1][decision]
			case 2:
				decision := n(7) + 1
				state, want = Decided(old, decision, false, slaveOnly), other[old-1][decision]
			case 3:
				state, want = Next(old, Power, slaveOnly), events[old-1][Power]
			}
			if state != want {
				t.Fatalf("%s turned to %q, not %s", Name(old), Name(state), Name(want))
			}
			if slaveOnly && (state == api.PreMaster || state == api.Master || state == api.Passive) {
				t.Fatalf("%s turned to %s, of a slave only", Name(old), Name(state))
			}
		}
	}
}
