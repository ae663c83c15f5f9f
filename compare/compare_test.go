package compare

import (
	"cmp"
	"fmt"
	"math"
	"math/big"
	"slices"
	"strings"
	"testing"

	"carillon/api"
)

// numbers are numbers in rising order, those at the edges of one byte, of two and of an int.
func numbers() []int {
	return []int{math.MinInt, math.MinInt + 1, math.MinInt + 2, -65536, -2, -1, 0, 1, 2, 127, 128, 254, 255, 256, 65534, 65535, 65536, 65537, 1 << 32, math.MaxInt - 2, math.MaxInt - 1, math.MaxInt}
}

// identities are clocks in rising order.
func identities() []uint64 {
	return []uint64{0, 1, 2, 0x001b19fffe010203, 1<<63 - 1, 1 << 63, 1<<63 + 1, 1<<64 - 2, 1<<64 - 1}
}

// places are some ports in rising order.
func places() []api.PortID {
	var l []api.PortID
	for _, c := range []uint64{0, 1, 0x001b19fffe010203, 1<<63 - 1, 1 << 63, 1<<64 - 1} {
		for _, n := range []int{math.MinInt, -1, 0, 1, 2, 65535, 65536, math.MaxInt} {
			l = append(l, api.PortID{Clock: c, Port: n})
		}
	}
	return l
}

// draw draws numbers below n, the same ones in each run.
func draw(seed uint64) func(n int) int {
	return func(n int) int {
		seed = seed*6364136223846793005 + 1442695040888963407
		return int(seed>>33) % n
	}
}

// one is a vector with something of its own in each field.
func one() api.Vector {
	return api.Vector{
		Priority1: 128,
		Quality:   api.Quality{Class: 248, Accuracy: 0xfe, Variance: 65535},
		Priority2: 127,
		Grand:     0x001b19fffe010203,
		Steps:     1,
		Sender:    api.PortID{Clock: 0x001b19fffe010203, Port: 2},
		Receiver:  api.PortID{Clock: 0x001b19fffe010204, Port: 1},
	}
}

// part is one of those that Grand asks for: a name, and how it is made the i-th of the numbers or identities.
type part struct {
	name string
	n    int
	set  func(v *api.Vector, i int)
}

// parts are these, the first one first.
func parts() []part {
	n := numbers()
	ids := identities()
	return []part{
		{"priority1", len(n), func(v *api.Vector, i int) { v.Priority1 = n[i] }},
		{"class", len(n), func(v *api.Vector, i int) { v.Quality.Class = n[i] }},
		{"accuracy", len(n), func(v *api.Vector, i int) { v.Quality.Accuracy = n[i] }},
		{"variance", len(n), func(v *api.Vector, i int) { v.Quality.Variance = n[i] }},
		{"priority2", len(n), func(v *api.Vector, i int) { v.Priority2 = n[i] }},
		{"grand", len(ids), func(v *api.Vector, i int) { v.Grand = ids[i] }},
	}
}

// bothWays asks for what a function says of two vectors, either way round.
func bothWays(t *testing.T, name string, f func(a, b api.Vector) int, a, b api.Vector, want int) {
	t.Helper()
	if got := f(a, b); got != want {
		t.Errorf("%s(%v, %v): %d, not %d", name, a, b, got, want)
	}
	if got := f(b, a); got != -want {
		t.Errorf("%s(%v, %v), the other way round: %d, not %d", name, b, a, got, -want)
	}
}

// says asks for Compare of two vectors, either way round.
func says(t *testing.T, a, b api.Vector, want int) {
	t.Helper()
	bothWays(t, "Compare", Compare, a, b, want)
}

// grand asks for Grand of two vectors, either way round; where it parts them, Compare says as much, twice.
func grand(t *testing.T, a, b api.Vector, want int) {
	t.Helper()
	bothWays(t, "Grand", Grand, a, b, want)
	if want != 0 {
		says(t, a, b, 2*want)
	}
}

func TestGrandByEachPart(t *testing.T) {
	for _, p := range parts() {
		for i := range p.n {
			for j := range p.n {
				a, b := one(), one()
				p.set(&a, i)
				p.set(&b, j)
				grand(t, a, b, cmp.Compare(i, j))
			}
		}
	}
}

// TestGrandByTheFirstPart has all parts behind one say the other thing, each alone and all of them.
func TestGrandByTheFirstPart(t *testing.T) {
	l := parts()
	for i, p := range l {
		for which := range 1 << len(l) {
			a, b := one(), one()
			for j, later := range l {
				if j > i && which>>j&1 == 1 {
					later.set(&a, later.n-1)
					later.set(&b, 0)
				}
			}
			p.set(&a, 2)
			p.set(&b, 3)
			grand(t, a, b, -1)
		}
	}
}

func TestGrandAsksForNothingElse(t *testing.T) {
	for _, n := range numbers() {
		a, b := one(), one()
		a.Steps = n
		grand(t, a, b, 0)
	}
	for _, p := range places() {
		a, b := one(), one()
		a.Sender = p
		grand(t, a, b, 0)
		a, b = one(), one()
		a.Receiver = p
		grand(t, a, b, 0)
	}
	for _, p := range parts() {
		a, b := one(), one()
		p.set(&a, 1)
		p.set(&b, 2)
		a.Steps, b.Steps = math.MaxInt, math.MinInt
		a.Sender, b.Sender = api.PortID{Clock: 1<<64 - 1, Port: 65535}, api.PortID{}
		a.Receiver, b.Receiver = a.Sender, b.Sender
		grand(t, a, b, -1)
	}
}

// ranked is what a vector's best master is as a text, the lesser text for the better one.
func ranked(v api.Vector) string {
	var b strings.Builder
	for _, n := range []int{v.Priority1, v.Quality.Class, v.Quality.Accuracy, v.Quality.Variance, v.Priority2} {
		up := new(big.Int).Add(big.NewInt(int64(n)), new(big.Int).Lsh(big.NewInt(1), 63))
		fmt.Fprintf(&b, "%020s", up)
	}
	fmt.Fprintf(&b, "%020d", v.Grand)
	return b.String()
}

// masters are vectors whose best masters are all sorts of them.
func masters() []api.Vector {
	few := []int{math.MinInt, -1, 0, 255, math.MaxInt}
	next := draw(1)
	var l []api.Vector
	for range 60 {
		v := one()
		v.Priority1 = few[next(2)+1]
		v.Quality = api.Quality{Class: few[next(3)], Accuracy: few[next(2)+3], Variance: few[next(5)]}
		v.Priority2 = few[next(2)]
		v.Grand = identities()[next(len(identities()))]
		v.Steps = few[next(5)]
		l = append(l, v)
	}
	return l
}

// TestGrandIsAnOrder asks for three in each order.
func TestGrandIsAnOrder(t *testing.T) {
	l := masters()
	l = append(l, l[0], l[1])
	for _, a := range l {
		for _, b := range l {
			grand(t, a, b, strings.Compare(ranked(a), ranked(b)))
			for _, c := range l {
				if Grand(a, b) <= 0 && Grand(b, c) <= 0 && Grand(a, c) > 0 {
					t.Fatalf("Grand: %v is not behind %v, nor that one behind %v, but the first is behind the last", a, b, c)
				}
				if Grand(a, b) == 0 && Grand(a, c) != Grand(b, c) {
					t.Fatalf("Grand: %v and %v are the same, but not against %v", a, b, c)
				}
			}
		}
	}
}

// heard is what was heard of one best master: how many steps, who sent it, who heard it.
func heard(steps int, sender, receiver api.PortID) api.Vector {
	v := one()
	v.Steps, v.Sender, v.Receiver = steps, sender, receiver
	return v
}

func TestCompareOfOneMaster(t *testing.T) {
	low := api.PortID{Clock: 5, Port: 1}
	mid := api.PortID{Clock: 5, Port: 2}
	high := api.PortID{Clock: 6, Port: 1}
	for _, x := range []struct {
		name string
		a, b api.Vector
		want int
	}{
		{"all the same", heard(1, low, mid), heard(1, low, mid), 0},
		{"two apart", heard(1, high, low), heard(3, low, mid), -2},
		{"far apart", heard(0, high, low), heard(9, low, mid), -2},
		{"one more, heard by a lesser port", heard(2, mid, low), heard(1, high, high), 2},
		{"one more, heard by a lesser clock", heard(2, high, low), heard(1, low, low), 2},
		{"one more, heard by a lesser clock at a greater port", heard(2, high, mid), heard(1, low, low), 2},
		{"one more, heard by a greater port", heard(2, low, mid), heard(1, high, high), 1},
		{"one more, heard by a greater clock", heard(2, low, high), heard(1, high, mid), 1},
		{"one more, heard by a greater clock at a lesser port", heard(2, mid, high), heard(1, high, mid), 1},
		{"one more, heard by who sent it", heard(2, mid, mid), heard(1, high, low), 0},
		{"one less asks the other one", heard(1, low, high), heard(2, high, low), -2},
		{"one less asks the other one, greater", heard(1, high, low), heard(2, low, high), -1},
		{"one less asks the other one, the same", heard(1, high, low), heard(2, low, low), 0},
		{"as many, a lesser sender's clock", heard(1, low, high), heard(1, high, low), -1},
		{"as many, a lesser sender's clock at a greater port", heard(1, mid, high), heard(1, high, low), -1},
		{"as many, a lesser sender's port", heard(1, low, mid), heard(1, mid, low), -1},
		{"as many, a lesser receiver's port", heard(1, high, low), heard(1, high, mid), -1},
		{"as many, a lesser receiver's port of a greater clock", heard(1, low, high), heard(1, low, mid), -1},
		{"as many, another receiver's clock", heard(1, low, high), heard(1, low, low), 0},
	} {
		bothWays(t, x.name+": Compare", Compare, x.a, x.b, x.want)
	}
}

// TestCompareBySteps has steps apart by each number, with what else there is saying each thing.
func TestCompareBySteps(t *testing.T) {
	low, high := api.PortID{Clock: 5, Port: 1}, api.PortID{Clock: 5, Port: 2}
	for _, n := range numbers() {
		for _, m := range numbers() {
			apart := new(big.Int).Sub(big.NewInt(int64(n)), big.NewInt(int64(m)))
			if apart.Cmp(big.NewInt(-1)) >= 0 && apart.Cmp(big.NewInt(1)) <= 0 {
				continue
			}
			for _, p := range []api.PortID{low, high} {
				for _, q := range []api.PortID{low, high} {
					says(t, heard(n, p, q), heard(m, q, p), 2*apart.Sign())
					says(t, heard(n, p, p), heard(m, q, q), 2*apart.Sign())
				}
			}
		}
	}
}

// TestCompareOfOneStepMore has one step more from each number on, with each receiver against each sender.
func TestCompareOfOneStepMore(t *testing.T) {
	l := places()
	for _, n := range numbers() {
		if n == math.MaxInt {
			continue
		}
		for i, receiver := range l {
			for j, sender := range l {
				want := 0
				if i < j {
					want = 2
				}
				if i > j {
					want = 1
				}
				v := heard(n+1, sender, receiver)
				says(t, v, heard(n, l[0], l[0]), want)
				says(t, v, heard(n, l[len(l)-1], l[0]), want)
				says(t, v, heard(n, l[0], l[len(l)-1]), want)
			}
		}
	}
}

func TestCompareOfAsManySteps(t *testing.T) {
	l := places()
	for _, n := range numbers() {
		for i, a := range l {
			for j, b := range l {
				// The receivers say the other thing: they are asked of one sender alone.
				want := cmp.Compare(i, j)
				says(t, heard(n, a, b), heard(n, b, a), want)
				says(t, heard(n, l[3], a), heard(n, l[3], b), cmp.Compare(a.Port, b.Port))
			}
		}
	}
}

// slow is Compare of another make: by a rule for each case, with numbers of any size.
func slow(a, b api.Vector) int {
	if c := strings.Compare(ranked(a), ranked(b)); c != 0 {
		return 2 * c
	}
	apart := new(big.Int).Sub(big.NewInt(int64(a.Steps)), big.NewInt(int64(b.Steps)))
	switch {
	case apart.CmpAbs(big.NewInt(1)) > 0:
		return 2 * apart.Sign()
	case apart.Sign() < 0:
		return -slow(b, a)
	case apart.Sign() > 0 && before(a.Receiver, a.Sender):
		return 2
	case apart.Sign() > 0 && before(a.Sender, a.Receiver):
		return 1
	case apart.Sign() > 0:
		return 0
	case before(a.Sender, b.Sender), a.Sender == b.Sender && a.Receiver.Port < b.Receiver.Port:
		return -1
	case before(b.Sender, a.Sender), a.Receiver.Port > b.Receiver.Port:
		return 1
	}
	return 0
}

// before tells whether a port is the lesser one.
func before(a, b api.PortID) bool {
	return a.Clock < b.Clock || a.Clock == b.Clock && a.Port < b.Port
}

// drawn draws vectors that are often alike.
func drawn(next func(n int) int) api.Vector {
	few := []int{0, 0, 0, 0, 0, 0, 255, 1, -1}
	n := func() int { return few[next(len(few))] }
	port := func() api.PortID {
		return api.PortID{Clock: []uint64{0, 1, 1<<64 - 1}[next(3)], Port: []int{-1, 0, 1, 65535}[next(4)]}
	}
	return api.Vector{
		Priority1: n(),
		Quality:   api.Quality{Class: n(), Accuracy: n(), Variance: n()},
		Priority2: n(),
		Grand:     []uint64{0, 0, 0, 0, 1 << 63}[next(5)],
		Steps:     []int{0, 1, 2, 3, 65535, 65536, math.MaxInt, math.MinInt}[next(8)],
		Sender:    port(),
		Receiver:  port(),
	}
}

func TestCompareOfMany(t *testing.T) {
	next := draw(2)
	for range 200000 {
		a, b := drawn(next), drawn(next)
		if next(2) == 0 {
			b.Priority1, b.Quality, b.Priority2, b.Grand = a.Priority1, a.Quality, a.Priority2, a.Grand
		}
		says(t, a, b, slow(a, b))
	}
}

// worse are the clocks of the example: each behind the first is set up as it, but for one part, in which it is worse; all parts behind that one are better.
func worse() []api.Conf {
	c := api.Conf{Clock: 50, Ports: 2, Priority1: 50, Priority2: 50, Quality: api.Quality{Class: 50, Accuracy: 50, Variance: 50}}
	l := []api.Conf{c, c, c, c, c, c, c}
	for i := range l {
		at := []*int{&l[i].Priority1, &l[i].Quality.Class, &l[i].Quality.Accuracy, &l[i].Quality.Variance, &l[i].Priority2}
		for j, p := range at {
			if i == j+1 {
				*p = 51
			}
			if i > 0 && i < j+1 {
				*p = 49
			}
		}
	}
	for i := 1; i < len(l)-1; i++ {
		l[i].Clock = 49
	}
	l[len(l)-1].Clock = 51
	return l
}

func TestOwnOfTwoClocks(t *testing.T) {
	l := worse()
	for _, c := range l[1:] {
		a, b := Own(l[0]), Own(c)
		grand(t, a, b, -1)
		if got := Best([]api.Vector{b, a, b}); got != 1 {
			t.Errorf("Best of %v and %v: %d", a, b, got)
		}
	}
	says(t, Own(l[0]), Own(l[0]), 0)
}

func TestOwn(t *testing.T) {
	c := api.Conf{
		Clock:     0x001b19fffe010203,
		Ports:     3,
		Domain:    4,
		Priority1: 5,
		Priority2: 6,
		Quality:   api.Quality{Class: 7, Accuracy: 8, Variance: 9},
		SlaveOnly: true,
		LogAnn:    1,
		LogSync:   2,
		LogDelay:  -3,
		Timeout:   10,
		Peer:      true,
		OneStep:   true,
		Median:    11,
		Kp:        12,
		Ki:        13,
		Step:      14,
		Times:     api.Times{Utc: 15, Flags: 16, Origin: 17},
		Trace:     true,
	}
	want := api.Vector{
		Priority1: 5,
		Quality:   api.Quality{Class: 7, Accuracy: 8, Variance: 9},
		Priority2: 6,
		Grand:     0x001b19fffe010203,
		Sender:    api.PortID{Clock: 0x001b19fffe010203},
		Receiver:  api.PortID{Clock: 0x001b19fffe010203},
	}
	if got := Own(c); got != want {
		t.Errorf("Own: %v, not %v", got, want)
	}
	if got := Own(api.Conf{}); got != (api.Vector{}) {
		t.Errorf("Own of a configuration of zeros: %v", got)
	}
}

// TestOwnOfNumbersThatMayNotBe has them stand as they are: Own refuses nothing.
func TestOwnOfNumbersThatMayNotBe(t *testing.T) {
	for _, n := range numbers() {
		for _, id := range identities() {
			c := api.Conf{Clock: id, Priority1: n, Priority2: n, Quality: api.Quality{Class: n, Accuracy: n, Variance: n}}
			p := api.PortID{Clock: id}
			want := api.Vector{Priority1: n, Quality: c.Quality, Priority2: n, Grand: id, Sender: p, Receiver: p}
			if got := Own(c); got != want {
				t.Errorf("Own of %d, %d: %v", n, id, got)
			}
		}
	}
}

func TestBest(t *testing.T) {
	low, high := api.PortID{Clock: 5, Port: 1}, api.PortID{Clock: 6, Port: 1}
	here := api.PortID{Clock: 7, Port: 1}
	good := heard(0, low, here)   // no steps
	stood := heard(0, high, here) // as many, but a greater sender
	bad := heard(2, low, here)    // more than one more
	worst := heard(2, low, here)  // another best master
	worst.Priority1 = 200
	elsewhere := heard(0, low, api.PortID{Clock: 9, Port: 1})
	for _, x := range []struct {
		name string
		l    []api.Vector
		want int
	}{
		{"none", nil, -1},
		{"an empty list", []api.Vector{}, -1},
		{"one", []api.Vector{worst}, 0},
		{"a zero one", []api.Vector{{}}, 0},
		{"two that are the same", []api.Vector{good, good}, 0},
		{"two of which Compare says the same", []api.Vector{elsewhere, good}, 0},
		{"three that are the same", []api.Vector{bad, bad, bad}, 0},
		{"the first", []api.Vector{good, bad, worst}, 0},
		{"the middle", []api.Vector{bad, good, worst}, 1},
		{"the last", []api.Vector{worst, bad, good}, 2},
		{"by where it stands, the first", []api.Vector{good, stood}, 0},
		{"by where it stands, the last", []api.Vector{stood, good}, 1},
		{"by where it stands, the middle", []api.Vector{worst, stood, good, stood, bad}, 2},
		{"two best ones", []api.Vector{stood, good, bad, good}, 1},
	} {
		if got := Best(x.l); got != x.want {
			t.Errorf("Best of %s: %d, not %d", x.name, got, x.want)
		}
	}
}

// TestBestGivesWayOneByOne has three of which no order is made: a and b are the same, b and c, too, but c is better than a.
func TestBestGivesWayOneByOne(t *testing.T) {
	p, q, r := api.PortID{Clock: 2, Port: 1}, api.PortID{Clock: 3, Port: 1}, api.PortID{Clock: 4, Port: 1}
	a, b, c := heard(2, p, p), heard(1, q, q), heard(0, r, r)
	says(t, a, b, 0)
	says(t, b, c, 0)
	says(t, a, c, 2)
	for _, x := range []struct {
		l    []api.Vector
		want int
	}{
		{[]api.Vector{a, b, c}, 2},
		{[]api.Vector{b, a, c}, 0},
		{[]api.Vector{b, c, a}, 0},
		{[]api.Vector{c, b, a}, 0},
		{[]api.Vector{a, c, b}, 1},
		{[]api.Vector{c, a, b}, 0},
	} {
		if got := Best(x.l); got != x.want {
			t.Errorf("Best(%v): %d, not %d", x.l, got, x.want)
		}
	}
}

// TestBestOfMany has lists of all lengths up to some: the last one to which the one ahead gave way; the list stays.
func TestBestOfMany(t *testing.T) {
	next := draw(3)
	for range 3000 {
		l := make([]api.Vector, next(12))
		for i := range l {
			l[i] = drawn(next)
			if i > 0 && next(2) == 0 {
				l[i] = l[next(i)]
			}
			if next(2) == 0 {
				l[i].Steps = next(4)
			}
		}
		before := slices.Clone(l)
		got := Best(l)
		if !slices.Equal(l, before) {
			t.Fatalf("Best: the list is %v now, it was %v", l, before)
		}
		if want := stays(l); got != want {
			t.Fatalf("Best(%v): %d, not %d", l, got, want)
		}
		for i := got + 1; i < len(l); i++ {
			if Compare(l[got], l[i]) > 0 {
				t.Fatalf("Best(%v): %d, but %d behind it is better", l, got, i)
			}
		}
	}
}

// stays is the place of the one that stays, found from the end of what each gives way to.
func stays(l []api.Vector) int {
	if len(l) == 0 {
		return -1
	}
	at := 0
	for {
		later := slices.IndexFunc(l[at+1:], func(v api.Vector) bool { return slow(l[at], v) > 0 })
		if later < 0 {
			return at
		}
		at += 1 + later
	}
}

// TestBestLeavesSpareRoom has a better one behind the end.
func TestBestLeavesSpareRoom(t *testing.T) {
	room := []api.Vector{heard(9, api.PortID{}, api.PortID{}), heard(6, api.PortID{}, api.PortID{}), heard(3, api.PortID{}, api.PortID{}), heard(0, api.PortID{}, api.PortID{})}
	before := slices.Clone(room)
	for n := range len(room) + 1 {
		if got := Best(room[:n]); got != n-1 {
			t.Errorf("Best of %d of 4: %d", n, got)
		}
	}
	if !slices.Equal(room, before) {
		t.Errorf("Best: the room is %v now, it was %v", room, before)
	}
}
