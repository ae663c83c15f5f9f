package decide

import (
	"fmt"
	"math"
	"slices"
	"testing"

	"carillon/api"
	"carillon/compare"
)

const me = 7 // the clock that decides

// draw draws numbers below n, the same ones in each run.
func draw(seed uint64) func(n int) int {
	return func(n int) int {
		seed = seed*6364136223846793005 + 1442695040888963407
		return int(seed>>33) % n
	}
}

// own is the clock's own vector, with a class.
func own(class int) api.Vector {
	self := api.PortID{Clock: me}
	return api.Vector{Priority1: 128, Quality: api.Quality{Class: class}, Grand: me, Sender: self, Receiver: self}
}

// heard is what the clock's port n hears of a best master of that priority from a clock's port 1.
func heard(priority1, steps int, sender uint64, n int) *api.Vector {
	return &api.Vector{
		Priority1: priority1,
		Quality:   api.Quality{Class: 6},
		Grand:     99,
		Steps:     steps,
		Sender:    api.PortID{Clock: sender, Port: 1},
		Receiver:  api.PortID{Clock: me, Port: n},
	}
}

// classes are some of each side of 127: those up to it, those above.
func classes() ([]int, []int) {
	return []int{math.MinInt, -129, -1, 0, 1, 6, 126, 127}, []int{128, 129, 248, 255, 256, 383, 1 << 32, math.MaxInt}
}

// against are vectors of which Compare with v says -2, -1, 0, 1, 2, more than one of each.
func against(t *testing.T, v api.Vector) map[int][]api.Vector {
	t.Helper()
	l := make(map[int][]api.Vector)
	add := func(want int, change func(w *api.Vector)) {
		w := v
		change(&w)
		if got := compare.Compare(v, w); got != want {
			t.Fatalf("Compare(%v, %v): %d, not %d", v, w, got, want)
		}
		l[want] = append(l[want], w)
	}
	add(-2, func(w *api.Vector) { w.Priority1++ })
	add(-2, func(w *api.Vector) { w.Grand++; w.Steps = 0 })
	add(-2, func(w *api.Vector) { w.Steps += 2 })
	add(-2, func(w *api.Vector) { w.Steps++; w.Sender.Clock = w.Receiver.Clock + 1 })
	add(-1, func(w *api.Vector) { w.Steps++; w.Sender.Clock = w.Receiver.Clock - 1 })
	add(-1, func(w *api.Vector) { w.Sender.Port++ })
	add(-1, func(w *api.Vector) { w.Receiver.Port++ })
	add(0, func(w *api.Vector) {})
	add(0, func(w *api.Vector) { w.Steps++; w.Receiver = w.Sender })
	add(1, func(w *api.Vector) { w.Sender.Port-- })
	add(1, func(w *api.Vector) { w.Receiver.Port-- })
	add(2, func(w *api.Vector) { w.Priority2-- })
	add(2, func(w *api.Vector) { w.Steps -= 2 })
	return l
}

// maybe are the vectors that a port or a clock may have: none, and one of each answer of Compare with v.
func maybe(t *testing.T, v api.Vector) []*api.Vector {
	t.Helper()
	l := []*api.Vector{nil}
	for _, ws := range against(t, v) {
		for _, w := range ws {
			l = append(l, &w)
		}
	}
	return l
}

// text tells a vector that may be none.
func text(v *api.Vector) string {
	if v == nil {
		return "none"
	}
	return fmt.Sprint(*v)
}

// is asks for One, and that the vectors are as they were.
func is(t *testing.T, d0 api.Vector, listening bool, best, port *api.Vector, here bool, want int) {
	t.Helper()
	ahead := text(best) + text(port)
	if got := One(d0, listening, best, port, here); got != want {
		t.Errorf("One(%v, %t, %s, %s, %t): %d, not %d", d0, listening, text(best), text(port), here, got, want)
	}
	if behind := text(best) + text(port); behind != ahead {
		t.Errorf("One changed %s: %s", ahead, behind)
	}
}

// every asks for One with each of listening and here.
func every(t *testing.T, d0 api.Vector, best, port *api.Vector, want int) {
	t.Helper()
	for i := range 4 {
		is(t, d0, i&1 == 1, best, port, i&2 == 2, want)
	}
}

func TestExample(t *testing.T) {
	is(t, own(248), false, nil, nil, false, api.M2)
	all, place := All(own(248), nil, []*api.Vector{nil})
	if !slices.Equal(all, []int{api.M2}) || place != -1 {
		t.Error(all, place)
	}
}

// TestListening: it counts alone where the port has no vector, and is the first that is asked for.
func TestListening(t *testing.T) {
	low, high := classes()
	for _, class := range slices.Concat(low, high) {
		d0 := own(class)
		for _, best := range maybe(t, d0) {
			is(t, d0, true, best, nil, false, api.L0)
			is(t, d0, true, best, nil, true, api.L0)
			for _, port := range maybe(t, d0)[1:] {
				for _, here := range []bool{false, true} {
					still := One(d0, false, best, port, here)
					is(t, d0, true, best, port, here, still)
				}
			}
		}
	}
}

// TestNoVectors is neither a best one nor one of the port.
func TestNoVectors(t *testing.T) {
	low, high := classes()
	for _, here := range []bool{false, true} {
		for _, class := range low {
			is(t, own(class), false, nil, nil, here, api.M1)
		}
		for _, class := range high {
			is(t, own(class), false, nil, nil, here, api.M2)
		}
	}
}

// TestLeader: up to a class of 127 the port's own vector alone is asked.
func TestLeader(t *testing.T) {
	low, _ := classes()
	for _, class := range low {
		d0 := own(class)
		for _, best := range maybe(t, d0) {
			is(t, d0, false, best, nil, false, api.M1)
			is(t, d0, false, best, nil, true, api.M1)
			for said, ports := range against(t, d0) {
				want := api.P1
				if said < 0 {
					want = api.M1
				}
				for _, port := range ports {
					every(t, d0, best, &port, want)
				}
			}
		}
	}
}

// TestNoBest: with a class above 127 and no best one it leads, whatever the port has.
func TestNoBest(t *testing.T) {
	_, high := classes()
	for _, class := range high {
		d0 := own(class)
		for _, port := range maybe(t, d0)[1:] {
			every(t, d0, nil, port, api.M2)
		}
	}
}

// TestByTheBest: the clock's own against the best one, whatever the port has.
func TestByTheBest(t *testing.T) {
	_, high := classes()
	for _, class := range high {
		d0 := own(class)
		for said, l := range against(t, d0) {
			for _, best := range l {
				for _, port := range maybe(t, best) {
					if said < 0 {
						is(t, d0, false, &best, port, false, api.M2)
						is(t, d0, false, &best, port, true, api.M2)
						continue
					}
					is(t, d0, false, &best, port, true, api.S1)
				}
				if said >= 0 {
					is(t, d0, false, &best, nil, false, api.M3)
				}
			}
		}
	}
}

// TestByThePort: the best one is not here, and is not worse than the clock's own: it is held against the port's.
func TestByThePort(t *testing.T) {
	_, high := classes()
	for _, class := range high {
		d0 := own(class)
		for answer, bests := range against(t, d0) {
			if answer < 0 {
				continue
			}
			for _, best := range bests {
				for said, ports := range against(t, best) {
					want := api.M3
					if said == -1 {
						want = api.P2
					}
					for _, port := range ports {
						is(t, d0, false, &best, &port, false, want)
						is(t, d0, true, &best, &port, false, want)
					}
				}
			}
		}
	}
}

// TestOneOfTheSame has the best one's own vector as the port's: the very pointer, and one like it.
func TestOneOfTheSame(t *testing.T) {
	v := heard(10, 1, 5, 1)
	like := *v
	for _, port := range []*api.Vector{v, &like} {
		every(t, own(6), v, port, api.P1)
		is(t, own(248), false, v, port, true, api.S1)
		is(t, own(248), false, v, port, false, api.M3)
	}
}

// slowOne asks for everything first, and takes the first line that holds.
func slowOne(d0 api.Vector, listening bool, best, port *api.Vector, here bool) int {
	sign := func(a, b *api.Vector) int {
		if a == nil || b == nil {
			return -3
		}
		return compare.Compare(*a, *b)
	}
	low, ownPort, ownBest, bestPort := d0.Quality.Class < 128, sign(&d0, port), sign(&d0, best), sign(best, port)
	lines := []struct {
		holds bool
		what  int
	}{
		{listening && port == nil, api.L0},
		{low && ownPort < 0, api.M1},
		{low && ownPort >= 0, api.P1},
		{!low && ownBest < 0, api.M2},
		{!low && ownBest >= 0 && here, api.S1},
		{!low && ownBest >= 0 && !here && bestPort == -1, api.P2},
		{!low && ownBest >= 0 && !here && bestPort != -1, api.M3},
	}
	for _, l := range lines {
		if l.holds {
			return l.what
		}
	}
	return 0
}

// anyVector draws one of few numbers, so that they are often alike.
func anyVector(next func(n int) int) api.Vector {
	return api.Vector{
		Priority1: 127 + next(2),
		Quality:   api.Quality{Class: 126 + next(4)},
		Grand:     uint64(next(2)),
		Steps:     next(4),
		Sender:    api.PortID{Clock: uint64(next(3)), Port: next(2)},
		Receiver:  api.PortID{Clock: uint64(next(3)), Port: next(2)},
	}
}

// anyPorts draws n vectors, some of them none, some of them the one ahead again.
func anyPorts(next func(n int) int, n int) []*api.Vector {
	l := make([]*api.Vector, n)
	for i := range l {
		switch next(5) {
		case 0:
		case 1:
			if i > 0 {
				l[i] = l[i-1]
			}
		default:
			v := anyVector(next)
			l[i] = &v
		}
	}
	return l
}

func TestOneOfMany(t *testing.T) {
	next := draw(1)
	for range 40000 {
		d0, l := anyVector(next), anyPorts(next, 2)
		listening, here := next(2) == 1, next(2) == 1
		is(t, d0, listening, l[0], l[1], here, slowOne(d0, listening, l[0], l[1], here))
	}
}

// all asks for All, twice, and that it hands out new memory and leaves what was handed in as it was.
func all(t *testing.T, d0 api.Vector, listening []bool, ports []*api.Vector, place int, want ...int) {
	t.Helper()
	flags, pointers := slices.Clone(listening[:cap(listening)]), slices.Clone(ports[:cap(ports)])
	var vectors []string
	for _, p := range pointers {
		vectors = append(vectors, text(p))
	}
	// What is written into one answer, and into its spare room, is not to be seen in another one.
	var wrote [][]int
	for n := range 2 {
		got, best := All(d0, listening, ports)
		if !slices.Equal(got, want) || best != place {
			t.Errorf("All(%v, %v, %v): %v, %d, not %v, %d", d0, listening, vectors, got, best, want, place)
		}
		got = got[:cap(got)]
		for i := range got {
			got[i] = 1000 + n
		}
		wrote = append(wrote, got)
	}
	for n, l := range wrote {
		for _, v := range l {
			if v != 1000+n {
				t.Fatal("two answers share memory")
			}
		}
	}
	if !slices.Equal(flags, listening[:cap(listening)]) || !slices.Equal(pointers, ports[:cap(ports)]) {
		t.Error("All changed a list")
	}
	for i, p := range pointers {
		if text(p) != vectors[i] {
			t.Errorf("All changed %s: %s", vectors[i], text(p))
		}
	}
}

func TestAllOfNone(t *testing.T) {
	for _, class := range []int{6, 248} {
		all(t, own(class), nil, nil, -1)
		all(t, own(class), []bool{}, []*api.Vector{}, -1)
		all(t, own(class), []bool{true, true}, nil, -1)
	}
}

func TestAllOfOne(t *testing.T) {
	better, worse := heard(10, 1, 5, 1), heard(200, 1, 5, 1)
	all(t, own(248), nil, []*api.Vector{better}, 0, api.S1)
	all(t, own(248), nil, []*api.Vector{worse}, 0, api.M2)
	all(t, own(6), nil, []*api.Vector{better}, 0, api.P1)
	all(t, own(6), nil, []*api.Vector{worse}, 0, api.M1)
	all(t, own(248), []bool{true}, []*api.Vector{better}, 0, api.S1)
	all(t, own(248), []bool{true}, []*api.Vector{nil}, -1, api.L0)
	all(t, own(6), []bool{true}, []*api.Vector{nil}, -1, api.L0)
	all(t, own(6), []bool{false}, []*api.Vector{nil}, -1, api.M1)
}

// TestAllOfTwoWays hears one best master at two ports.
func TestAllOfTwoWays(t *testing.T) {
	for _, c := range []struct {
		first, second *api.Vector
		want          []int
	}{
		{heard(10, 1, 5, 1), heard(10, 2, 5, 2), []int{api.S1, api.P2}},  // one step more, from a lesser clock
		{heard(10, 1, 5, 1), heard(10, 2, 7, 2), []int{api.S1, api.P2}},  // likewise: a lesser port of itself
		{heard(10, 1, 5, 1), heard(10, 2, 9, 2), []int{api.S1, api.M3}},  // one step more, from a greater one
		{heard(10, 1, 9, 1), heard(10, 1, 5, 2), []int{api.P2, api.S1}},  // as many steps
		{heard(10, 1, 5, 1), heard(10, 1, 5, 2), []int{api.S1, api.P2}},  // the same announcer on one segment
		{heard(10, 1, 5, 1), heard(10, 3, 5, 2), []int{api.S1, api.M3}},  // two steps more
		{heard(10, 1, 5, 1), heard(10, 60, 5, 2), []int{api.S1, api.M3}}, // many more
		{heard(20, 1, 5, 1), heard(10, 9, 5, 2), []int{api.M3, api.S1}},  // two clocks
	} {
		place := slices.Index(c.want, api.S1)
		all(t, own(248), nil, []*api.Vector{c.first, c.second}, place, c.want...)
		all(t, own(6), nil, []*api.Vector{c.first, c.second}, place, api.P1, api.P1)
		slices.Reverse(c.want)
		all(t, own(248), nil, []*api.Vector{c.second, c.first}, 1-place, c.want...)
	}
}

// TestAllOfTwoWorse hears two clocks, and is better than one of them or than both.
func TestAllOfTwoWorse(t *testing.T) {
	good, bad, worst := heard(10, 1, 5, 1), heard(200, 1, 3, 2), heard(201, 1, 4, 3)
	all(t, own(248), nil, []*api.Vector{bad, good}, 1, api.M3, api.S1)
	all(t, own(248), nil, []*api.Vector{worst, bad}, 1, api.M2, api.M2)
	all(t, own(127), nil, []*api.Vector{bad, good}, 1, api.M1, api.P1)
	all(t, own(128), nil, []*api.Vector{bad, good}, 1, api.M3, api.S1)
	all(t, own(127), nil, []*api.Vector{worst, bad}, 1, api.M1, api.M1)
	all(t, own(248), []bool{true, true, true, false}, []*api.Vector{nil, worst, bad, nil}, 2, api.L0, api.M2, api.M2, api.M2)
}

func TestAllListening(t *testing.T) {
	for _, class := range []int{127, 128} {
		lead := api.M1 + class - 127
		three := []*api.Vector{nil, nil, nil}
		l0 := api.L0
		all(t, own(class), nil, three, -1, lead, lead, lead)
		all(t, own(class), []bool{true}, three, -1, l0, lead, lead)
		all(t, own(class), []bool{false, true}, three, -1, lead, l0, lead)
		all(t, own(class), []bool{true, false, true}, three, -1, l0, lead, l0)
		all(t, own(class), []bool{false, false, false, true, true}, three, -1, lead, lead, lead)
		// Spare room says nothing of a port.
		spare := []bool{true, true, true}
		all(t, own(class), spare[:0], three, -1, lead, lead, lead)
		all(t, own(class), spare[:2], three, -1, l0, l0, lead)
	}
	best := heard(10, 1, 5, 2)
	all(t, own(248), []bool{true, true}, []*api.Vector{nil, best, nil}, 1, api.L0, api.S1, api.M3)
}

// TestAllPlace has the best one at each place, with each set of the others missing.
func TestAllPlace(t *testing.T) {
	for n := 1; n <= api.MaxPorts; n++ {
		for place := range n {
			for missing := range 1 << n {
				if missing>>place&1 == 1 {
					continue
				}
				ports, want := make([]*api.Vector, n), make([]int, n)
				for i := range n {
					want[i] = api.M3
					if missing>>i&1 == 0 {
						ports[i] = heard(20+(i+3*place)%n, 1, 5, i+1)
					}
				}
				ports[place], want[place] = heard(10, 1, 5, place+1), api.S1
				all(t, own(248), nil, ports, place, want...)
			}
		}
	}
}

// TestAllOfOneVectorTwice: the first one of the same is the best.
func TestAllOfOneVectorTwice(t *testing.T) {
	v := heard(10, 1, 5, 1)
	like := *v
	all(t, own(248), nil, []*api.Vector{v, v}, 0, api.S1, api.M3)
	all(t, own(248), nil, []*api.Vector{v, &like}, 0, api.S1, api.M3)
	all(t, own(248), nil, []*api.Vector{nil, heard(20, 1, 5, 2), v, nil, v}, 2, api.M3, api.M3, api.S1, api.M3, api.M3)
	all(t, own(6), nil, []*api.Vector{v, v}, 0, api.P1, api.P1)
	// A clock's own vector is as good as itself: it does not lead there.
	d0 := own(248)
	all(t, d0, nil, []*api.Vector{nil, &d0, &d0}, 1, api.M3, api.S1, api.M3)
}

// TestAllOfMaxPorts looks at no port beyond them, nor at spare room.
func TestAllOfMaxPorts(t *testing.T) {
	ports := make([]*api.Vector, api.MaxPorts+2)
	listening := make([]bool, len(ports))
	listening[api.MaxPorts] = true
	m2 := slices.Repeat([]int{api.M2}, api.MaxPorts)
	all(t, own(248), listening, ports, -1, m2...)
	ports[api.MaxPorts] = heard(1, 1, 5, 9)
	for n := 0; n <= api.MaxPorts; n++ {
		all(t, own(248), listening, ports[:n], -1, m2[:n]...)
	}
	all(t, own(248), listening, ports[:api.MaxPorts+1], -1, m2...)
	want := slices.Repeat([]int{api.M3}, api.MaxPorts)
	want[0], want[7] = api.P2, api.S1
	ports[0], ports[7] = heard(10, 1, 6, 1), heard(10, 1, 5, 8)
	all(t, own(248), listening, ports, 7, want...)
	ports[api.MaxPorts] = nil
	all(t, own(248), listening, ports[:api.MaxPorts+1], 7, want...)
	many := make([]*api.Vector, 5000)
	many[8], many[4999] = ports[0], ports[0]
	all(t, own(248), make([]bool, 6000), many, -1, m2...)
}

// slowPlace is the place of the best one, found one by one.
func slowPlace(ports []*api.Vector) int {
	place := -1
	for i, p := range ports {
		if p != nil && (place < 0 || compare.Compare(*ports[place], *p) > 0) {
			place = i
		}
	}
	return place
}

// TestAllOfMany holds All against One of each port, and against what follows.
func TestAllOfMany(t *testing.T) {
	next := draw(2)
	for range 20000 {
		d0, ports := anyVector(next), anyPorts(next, next(api.MaxPorts+1))
		listening := make([]bool, next(len(ports)+3))
		for i := range listening {
			listening[i] = next(2) == 1
		}
		place := slowPlace(ports)
		var best *api.Vector
		if place >= 0 {
			best = ports[place]
		}
		var want []int
		follows := 0
		for i, p := range ports {
			d := slowOne(d0, i < len(listening) && listening[i], best, p, i == place)
			want = append(want, d)
			if d == api.S1 {
				follows++
			}
		}
		all(t, d0, listening, ports, place, want...)
		if follows > 1 || follows > 0 && d0.Quality.Class <= 127 {
			t.Errorf("%v follows at %d ports: %v", d0, follows, want)
		}
	}
}

// TestWhatFollows asks All alone, of all classes.
func TestWhatFollows(t *testing.T) {
	next := draw(3)
	low, high := classes()
	some := slices.Concat(low, high)
	follows := make(map[int]int)
	for range 20000 {
		d0, ports := anyVector(next), anyPorts(next, next(api.MaxPorts+3))
		d0.Quality.Class = some[next(len(some))]
		got, place := All(d0, []bool{next(2) == 1, next(2) == 1}, ports)
		n := 0
		for i, d := range got {
			if d < api.M1 || d > api.L0 {
				t.Fatalf("%v: no decision", got)
			}
			if d == api.S1 {
				n++
				if i != place || d0.Quality.Class <= 127 {
					t.Fatalf("%v: S1 of class %d, the best is at %d", got, d0.Quality.Class, place)
				}
			}
		}
		if n > 1 {
			t.Fatalf("%v: more than one S1", got)
		}
		follows[n]++
	}
	if follows[0] == 0 || follows[1] == 0 {
		t.Errorf("%v: not each case was drawn", follows)
	}
}

func TestText(t *testing.T) {
	names := map[int]string{api.M1: "M1", api.M2: "M2", api.M3: "M3", api.P1: "P1", api.P2: "P2", api.S1: "S1", api.L0: "L0"}
	for d := -300; d <= 300; d++ {
		if got := Text(d); got != names[d] {
			t.Errorf("Text(%d): %q, not %q", d, got, names[d])
		}
	}
	for _, d := range []int{math.MinInt, math.MinInt + 1, -1 << 32, 1 << 8, 1<<16 + 1, 1<<32 + 1, 1<<63 - 7, math.MaxInt} {
		if got := Text(d); got != "" {
			t.Errorf("Text(%d): %q", d, got)
		}
	}
}
