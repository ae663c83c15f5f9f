package median

import (
	"math"
	"slices"
	"testing"
)

// greatest is the greatest number of values that a filter may have.
const greatest = 15

// sizes are numbers of values that are asked for, and those that a filter has then.
var sizes = []struct{ n, want int }{
	{1, 1}, {2, 2}, {3, 3}, {4, 4}, {5, 5}, {6, 6}, {7, 7}, {8, 8}, {9, 9}, {10, 10}, {11, 11}, {12, 12},
	{greatest - 2, greatest - 2}, {greatest - 1, greatest - 1}, {greatest, greatest},
	{greatest + 1, greatest}, {greatest + 2, greatest}, {255, greatest}, {256, greatest}, {257, greatest}, {65536, greatest}, {65539, greatest}, {1 << 32, greatest}, {1<<32 + 5, greatest}, {math.MaxInt - 1, greatest}, {math.MaxInt, greatest},
	{0, 1}, {-1, 1}, {-2, 1}, {-3, 1}, {-greatest, 1}, {-250, 1}, {-256, 1}, {-65536, 1}, {-1 << 32, 1}, {-1<<32 + 5, 1}, {math.MinInt + 1, 1}, {math.MinInt, 1},
}

// edges are values in rising order, those at both ends of an int, too.
func edges() []int {
	return []int{math.MinInt, math.MinInt + 1, -1 << 62, -1<<32 - 1, -1 << 31, -65536, -1, 0, 1, 255, 1<<31 - 1, 1 << 32, 1 << 53, 1<<53 + 1, 1 << 62, math.MaxInt - 1, math.MaxInt}
}

// draw draws numbers below n, the same ones in each run.
func draw(seed uint64) func(n int) int {
	return func(n int) int {
		seed = seed*6364136223846793005 + 1442695040888963407
		return int(seed>>33) % n
	}
}

// middle is the median by how many values are below it, and how many are not above it: nothing is put in order.
func middle(l []int) (int, bool) {
	for _, v := range l {
		below, upTo := 0, 0
		for _, w := range l {
			if w < v {
				below++
			}
			if w <= v {
				upTo++
			}
		}
		// The lesser one in the middle has half of the others, rounded down, ahead of it.
		if half := (len(l) - 1) / 2; below <= half && half < upTo {
			return v, true
		}
	}
	return 0, false
}

// has asks for a filter's values and their median, twice, and that asking turns nothing.
func has(t *testing.T, f *Filter, want ...int) {
	t.Helper()
	old := *f
	for range 2 {
		if got := f.Values(); !slices.Equal(got, want) {
			t.Errorf("Values: %v, not %v", got, want)
		}
		v, ok := f.Median()
		if m, is := middle(want); v != m || ok != is {
			t.Errorf("Median of %v: %d, %t, not %d, %t", want, v, ok, m, is)
		}
	}
	if *f != old {
		t.Errorf("asked, %v was turned to %v", old, *f)
	}
}

// put puts a value, and asks that the answer is Median's then.
func put(t *testing.T, f *Filter, v, want int) {
	t.Helper()
	if got := f.Put(v); got != want {
		t.Errorf("Put(%d): %d, not %d, of %v", v, got, want, f.Values())
	}
	if got, ok := f.Median(); got != want || !ok {
		t.Errorf("Median behind Put(%d): %d, %t, not %d, of %v", v, got, ok, want, f.Values())
	}
}

// putAll puts values behind those that a filter of n has, and asks at each for all; it answers those that it has then.
func putAll(t *testing.T, f *Filter, n int, had, values []int) []int {
	t.Helper()
	for _, v := range values {
		had = append(slices.Clone(had), v)
		if len(had) > n {
			had = had[1:]
		}
		want, _ := middle(had)
		put(t, f, v, want)
		has(t, f, had...)
	}
	return had
}

// filled is a filter of n with these values.
func filled(n int, values ...int) *Filter {
	f := New(n)
	for _, v := range values {
		f.Put(v)
	}
	return f
}

// count are the numbers from 1 to n.
func count(n int) []int {
	var l []int
	for i := range n {
		l = append(l, i+1)
	}
	return l
}

// orders tells all orders of a list.
func orders(l []int, told func(l []int)) {
	if len(l) == 0 {
		told(nil)
		return
	}
	for i, v := range l {
		rest := append(slices.Clone(l[:i]), l[i+1:]...)
		orders(rest, func(behind []int) { told(append([]int{v}, behind...)) })
	}
}

// TestMiddle holds what the other tests ask for against medians that are written out.
func TestMiddle(t *testing.T) {
	for _, c := range []struct {
		l    []int
		want int
		ok   bool
	}{
		{nil, 0, false}, {[]int{7}, 7, true}, {[]int{0}, 0, true}, {[]int{9, 5}, 5, true}, {[]int{5, 9}, 5, true}, {[]int{5, 5}, 5, true},
		{[]int{5, 9, 1}, 5, true}, {[]int{9, 1, 2}, 2, true}, {[]int{5, 5, 1}, 5, true}, {[]int{9, 5, 5}, 5, true}, {[]int{1, 2, 3, 4}, 2, true}, {[]int{4, 1, 3, 2}, 2, true},
		{[]int{7, 1, 7, 1}, 1, true}, {[]int{7, 1, 7, 7}, 7, true}, {[]int{6, 5, 4, 3, 2, 1}, 3, true},
	} {
		if got, ok := middle(c.l); got != c.want || ok != c.ok {
			t.Errorf("%v: %d, %t, not %d, %t", c.l, got, ok, c.want, c.ok)
		}
	}
}

func TestExample(t *testing.T) {
	f := New(3)
	has(t, f)
	put(t, f, 5, 5)
	has(t, f, 5)
	put(t, f, 9, 5)
	has(t, f, 5, 9)
	put(t, f, 1, 5)
	has(t, f, 5, 9, 1)
	put(t, f, 2, 2)
	has(t, f, 9, 1, 2)
}

// TestWrittenOut has rows of calls with what each must answer written out.
func TestWrittenOut(t *testing.T) {
	for _, c := range []struct {
		n            int
		values, told []int
		left         []int
	}{
		{1, []int{4, -4, 0, 9}, []int{4, -4, 0, 9}, []int{9}},
		{2, []int{4, 7, 1, 9, -2, -1}, []int{4, 4, 1, 1, -2, -2}, []int{-2, -1}},
		{3, []int{1, 2, 3, 4, 5, 6}, []int{1, 1, 2, 3, 4, 5}, []int{4, 5, 6}},
		{3, []int{6, 5, 4, 3, 2, 1}, []int{6, 5, 5, 4, 3, 2}, []int{3, 2, 1}},
		{4, []int{10, 40, 20, 30, 50, 5, 5}, []int{10, 10, 20, 20, 30, 20, 5}, []int{30, 50, 5, 5}},
		{5, []int{3, -1, 4, -1, 5, -9, 2, 6}, []int{3, -1, 3, -1, 3, -1, 2, 2}, []int{-1, 5, -9, 2, 6}},
		{6, []int{8, 8, 1, 1, 8, 1, 1}, []int{8, 8, 8, 1, 8, 1, 1}, []int{8, 1, 1, 8, 1, 1}},
	} {
		f := New(c.n)
		for i, v := range c.values {
			put(t, f, v, c.told[i])
		}
		has(t, f, c.left...)
	}
}

// TestNew asks how many values a filter has, by the values that are left of many.
func TestNew(t *testing.T) {
	for _, c := range sizes {
		f := New(c.n)
		has(t, f)
		values := count(3*greatest + 1)
		if got := putAll(t, f, c.want, nil, values); len(got) != c.want {
			t.Errorf("New(%d): %d values, not %d", c.n, len(got), c.want)
		}
		has(t, f, values[len(values)-c.want:]...)
	}
}

// TestHowMany puts each number of values, from none to many more than a filter has.
func TestHowMany(t *testing.T) {
	for n := 1; n <= greatest; n++ {
		for many := range 4*greatest + 1 {
			values := count(many)
			f := filled(n, values...)
			has(t, f, values[max(many-n, 0):]...)
			slices.Reverse(values)
			f = filled(n, values...)
			has(t, f, values[max(many-n, 0):]...)
		}
	}
}

func TestNone(t *testing.T) {
	for _, c := range sizes {
		f := New(c.n)
		if v, ok := f.Median(); v != 0 || ok {
			t.Errorf("New(%d): Median of none: %d, %t", c.n, v, ok)
		}
		if l := f.Values(); len(l) != 0 {
			t.Errorf("New(%d): Values of none: %v", c.n, l)
		}
	}
}

func TestOne(t *testing.T) {
	for _, c := range sizes {
		for _, v := range edges() {
			f := New(c.n)
			put(t, f, v, v)
			has(t, f, v)
		}
	}
}

// TestTwo has each edge with each other: the lesser one is told, whichever came first.
func TestTwo(t *testing.T) {
	for n := 2; n <= greatest; n++ {
		for _, v := range edges() {
			for _, w := range edges() {
				f := New(n)
				put(t, f, v, v)
				put(t, f, w, min(v, w))
				has(t, f, v, w)
			}
		}
	}
}

// TestEdges has three of the edges at a time, and then a fourth: two of them may be so far apart that an int can't say it.
func TestEdges(t *testing.T) {
	for _, n := range []int{3, 4, greatest} {
		for _, u := range edges() {
			for _, v := range edges() {
				for _, w := range edges() {
					f := filled(n, u, v)
					have := putAll(t, f, n, []int{u, v}, []int{w})
					putAll(t, f, n, have, []int{u, math.MinInt, math.MaxInt})
				}
			}
		}
	}
}

// TestBothEnds has as many of the one end as of the other, one more, one fewer.
func TestBothEnds(t *testing.T) {
	for n := 1; n <= greatest; n++ {
		for lows := range n + 1 {
			var values []int
			for i := range n {
				values = append(values, math.MaxInt)
				if i < lows {
					values[i] = math.MinInt
				}
			}
			want := math.MaxInt
			if 2*lows >= n {
				want = math.MinInt
			}
			for range n {
				f := filled(n, values...)
				has(t, f, values...)
				if v, ok := f.Median(); v != want || !ok {
					t.Errorf("%v: %d, %t, not %d", values, v, ok, want)
				}
				values = append(values[1:], values[0])
			}
		}
	}
}

// TestAllTheSame has one value many times over, then takes another's place one by one.
func TestAllTheSame(t *testing.T) {
	for n := 1; n <= greatest; n++ {
		for _, v := range edges() {
			f := New(n)
			for range 2*n + 3 {
				put(t, f, v, v)
			}
			have := slices.Repeat([]int{v}, n)
			has(t, f, have...)
			for _, w := range []int{math.MinInt, 0, math.MaxInt} {
				have = putAll(t, f, n, have, slices.Repeat([]int{w}, n))
			}
			has(t, f, slices.Repeat([]int{math.MaxInt}, n)...)
		}
	}
}

// TestSomeTheSame goes through all rows of few values: each of them may stand some times over, side by side or apart.
func TestSomeTheSame(t *testing.T) {
	const of = 3
	for n := 1; n <= 7; n++ {
		rows := 1
		for range n {
			rows *= of
		}
		for row := range rows {
			values := make([]int, n)
			for i := range values {
				values[i] = row%of - 1
				row /= of
			}
			f := New(n)
			putAll(t, f, n, nil, values)
			has(t, f, values...)
		}
	}
}

// TestOrders asks that the middle is the same in whatever order the values come.
func TestOrders(t *testing.T) {
	for _, values := range [][]int{{1}, {1, 2}, {1, 2, 3}, {-5, 0, 5, 6}, {-9, -3, 2, 2, 8}, {math.MinInt, -1, 0, 1, 2, math.MaxInt}, {4, 4, 4, 5, 5, 6, 7}} {
		want := values[(len(values)-1)/2]
		for _, n := range []int{len(values), greatest} {
			orders(values, func(l []int) {
				f := filled(n, l...)
				if v, ok := f.Median(); v != want || !ok {
					t.Fatalf("New(%d), %v: %d, %t, not %d", n, l, v, ok, want)
				}
				if got := f.Values(); !slices.Equal(got, l) {
					t.Fatalf("New(%d), %v: Values: %v", n, l, got)
				}
			})
		}
	}
}

// TestRiseFallAndMix has as many values as a filter may have rise, fall and come in drawn orders.
func TestRiseFallAndMix(t *testing.T) {
	next := draw(19)
	for n := 1; n <= greatest; n++ {
		rise := edges()[:n]
		want := rise[(n-1)/2]
		fall := slices.Clone(rise)
		slices.Reverse(fall)
		rows := [][]int{rise, fall}
		for range 300 {
			mix := slices.Clone(rise)
			for i := range mix {
				k := next(i + 1)
				mix[i], mix[k] = mix[k], mix[i]
			}
			rows = append(rows, mix)
		}
		for _, l := range rows {
			f := New(n)
			putAll(t, f, n, nil, l)
			if v, ok := f.Median(); v != want || !ok {
				t.Errorf("%v: %d, %t, not %d", l, v, ok, want)
			}
		}
	}
}

// TestFarOff has one value at an end of an int among others that are near each other: the middle stays near, at each place of the far one.
func TestFarOff(t *testing.T) {
	for n := 3; n <= greatest; n++ {
		for place := range n {
			for _, far := range []int{math.MinInt, -4000000000000000, 4000000000000000, math.MaxInt} {
				f := New(n)
				var values []int
				for i := range n {
					values = append(values, 100+i%3)
					if i == place {
						values[i] = far
					}
				}
				putAll(t, f, n, nil, values)
				if v, ok := f.Median(); v < 100 || v > 102 || !ok {
					t.Errorf("%v: %d, %t", values, v, ok)
				}
			}
		}
	}
}

// TestAheadPlaysNoPart asks that filters that hold the same are the same, whatever went ahead.
func TestAheadPlaysNoPart(t *testing.T) {
	next := draw(5)
	for n := 1; n <= greatest; n++ {
		for range 50 {
			var values, more []int
			for range n {
				values = append(values, next(20)-10)
			}
			for range 5 {
				more = append(more, next(20)-10)
			}
			fresh := filled(n, values...)
			old := New(n)
			for range next(40) {
				old.Put(edges()[next(len(edges()))])
			}
			for _, v := range values {
				old.Put(v)
			}
			has(t, old, values...)
			if *old != *fresh {
				t.Errorf("of %v there are %v and %v", values, *fresh, *old)
			}
			putAll(t, old, n, values, more)
			putAll(t, fresh, n, values, more)
		}
	}
}

// TestClear clears filters with each number of values, twice too, and puts some behind it.
func TestClear(t *testing.T) {
	for _, c := range sizes {
		for had := range 2*greatest + 2 {
			f := filled(c.n, slices.Repeat([]int{math.MaxInt, 7, math.MinInt}, 11)[:had]...)
			for range 1 + had%2 {
				f.Clear()
				has(t, f)
			}
			if *f != *New(c.n) {
				t.Errorf("New(%d), %d values, Clear: %v", c.n, had, *f)
			}
			putAll(t, f, c.want, nil, append([]int{5, 9, 1, 2}, count(2*greatest)...))
		}
	}
}

// TestClearBetween clears a filter again and again.
func TestClearBetween(t *testing.T) {
	for n := 1; n <= greatest; n++ {
		f := New(n)
		for _, many := range []int{0, 1, n / 2, n - 1, n, 1, n + 1, 3 * n, 2, 0, n} {
			values := count(many)
			slices.Reverse(values)
			have := putAll(t, f, n, nil, values)
			has(t, f, have...)
			f.Clear()
			has(t, f)
		}
	}
}

// TestCallersOwn writes into what Values told, its spare room too: no filter is turned.
func TestCallersOwn(t *testing.T) {
	for n := 1; n <= greatest; n++ {
		for many := range 2*n + 2 {
			values := count(many)
			f := filled(n, values...)
			old, have := *f, values[max(many-n, 0):]
			l := f.Values()
			l = l[:cap(l)]
			for i := range l {
				l[i] = math.MinInt
			}
			if more := append(f.Values(), math.MaxInt); len(more) != len(have)+1 {
				t.Errorf("%v with one behind it", more)
			}
			if *f != old {
				t.Errorf("%v was turned to %v", old, *f)
			}
			has(t, f, have...)
			putAll(t, f, n, have, []int{-1, -2, 50})
		}
	}
}

// TestToldStays asks that what Values told stays as it was, whatever comes behind it.
func TestToldStays(t *testing.T) {
	for n := 1; n <= greatest; n++ {
		for many := range 2*n + 2 {
			values := count(many)
			f := filled(n, values...)
			have := values[max(many-n, 0):]
			told, again := f.Values(), f.Values()
			room := slices.Clone(told[:cap(told)])
			for _, act := range []func(){
				func() { f.Put(-7) },
				func() { clear(again[:cap(again)]) },
				func() { f.Median() },
				func() { f.Put(99); f.Put(-99) },
				func() { clear(f.Values()) },
				func() { f.Clear() },
				func() { f.Put(1000) },
			} {
				act()
				if !slices.Equal(told, have) || !slices.Equal(told[:cap(told)], room) {
					t.Errorf("%v was turned to %v", room, told[:cap(told)])
				}
			}
		}
	}
}

// TestTwoFilters does each thing to one filter, and asks another.
func TestTwoFilters(t *testing.T) {
	for n := 1; n <= greatest; n++ {
		for _, act := range []func(f *Filter){
			func(f *Filter) { f.Put(-1) },
			func(f *Filter) { f.Put(math.MaxInt); f.Put(math.MinInt) },
			func(f *Filter) { f.Clear() },
			func(f *Filter) { f.Median() },
			func(f *Filter) { clear(f.Values()) },
		} {
			one, other, empty := filled(n, 3, 2, 1), filled(n, 5, 6, 4), New(n)
			had := []int{5, 6, 4}[max(3-n, 0):]
			for range n + 1 {
				act(one)
				has(t, other, had...)
				has(t, empty)
			}
			mine := one.Values()
			other.Put(8)
			other.Clear()
			has(t, one, mine...)
			has(t, New(n))
		}
	}
}

// TestCopyIsAnother: a filter that is copied goes on by itself.
func TestCopyIsAnother(t *testing.T) {
	one := filled(4, 10, 20, 30, 40)
	other := *one
	one.Put(50)
	has(t, &other, 10, 20, 30, 40)
	other.Put(5)
	other.Put(6)
	has(t, one, 20, 30, 40, 50)
	one.Clear()
	has(t, &other, 30, 40, 5, 6)
}

// TestDrawn holds drawn calls of filters of all sizes against lists of all that was put.
func TestDrawn(t *testing.T) {
	next := draw(1900)
	var filters [greatest + 1]*Filter
	var all [greatest + 1][]int
	for n := range filters {
		filters[n] = New(n)
	}
	for range 60000 {
		n := 1 + next(greatest)
		f := filters[n]
		v := next(21) - 10
		switch next(50) {
		case 0:
			f.Clear()
			all[n] = nil
		case 1, 2, 3:
			clear(f.Values())
		case 4, 5, 6, 7, 8:
			v = edges()[next(len(edges()))]
			fallthrough
		default:
			all[n] = append(all[n], v)
			want, _ := middle(all[n][max(len(all[n])-n, 0):])
			put(t, f, v, want)
		}
		has(t, f, all[n][max(len(all[n])-n, 0):]...)
	}
}
