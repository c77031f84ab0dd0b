package panes_test

import (
	"cmp"
	"math"
	"slices"
	"testing"

	"cordon/api"
	"cordon/panes"
)

const (
	mostTime = 1 << 40
	mostSize = 1 << 20
)

// kinds holds the four, and some that are none.
var kinds = []int{1, 2, 3, 4, 0, 5, -1, 1<<32 + 2, math.MinInt, math.MaxInt}

type pair struct{ size, slide int }

// rights holds sizes and slides that may be: windows that overlap and that don't, multiples of the slide and others.
var rights = []pair{
	{1, 1}, {2, 1}, {8, 1}, {3, 2}, {16, 2}, {4, 3}, {4, 4}, {5, 4}, {10, 4}, {10, 5}, {11, 5}, {10, 9}, {10, 10}, {80, 10},
	{100, 13}, {1000, 125}, {mostSize, mostSize / 8}, {mostSize, mostSize/2 + 1}, {mostSize, mostSize},
}

// wrongs holds sizes and slides that may not be, each for a reason of its own.
var wrongs = []pair{
	{0, 0}, {1, 0}, {10, 0}, {10, -5}, {-1, -1}, {-10, -10}, {0, 1}, {-1, 1}, {3, 4}, {9, 10}, {9, 1}, {17, 2}, {81, 10},
	{mostSize + 1, mostSize}, {mostSize + 1, mostSize + 1}, {mostSize, mostSize/8 - 1}, {1<<32 + 8, 8}, {8, 1<<32 + 8},
	{math.MaxInt, 1}, {math.MaxInt, math.MaxInt}, {math.MinInt, math.MinInt}, {math.MinInt, 1}, {1, math.MinInt}, {math.MinInt, math.MaxInt},
}

// mixed holds events as they may come: several keys at one time, one key at several times, both signs, equal ones, ends of int.
var mixed = []api.Event{
	ev(7, 1, 3, 1), ev(7, 0, 3, 2), ev(7, 255, -8, 4), ev(7, 1, 3, 1), ev(12, 1, 4, 2), ev(0, 1, 0, 8), ev(0, -3, 5, 1), ev(0, 0, -5, 1),
	ev(9, 1, math.MaxInt, 16), ev(9, 1, math.MinInt, 1<<63), ev(10, 1, math.MaxInt, 32), ev(10, 1, 1, 0), ev(4, math.MinInt, 6, 1), ev(4, math.MaxInt, 6, 3),
	ev(5, 2, -1, 1), ev(3, 2, -7, 1), ev(39, 2, 11, 1), ev(40, 2, -11, 2), ev(mostTime, 1, 2, 1), ev(mostTime-1, 1, 3, 4), ev(1<<32, 1, 9, 1), ev(1<<32+7, 7, 9, 1),
	ev(-1, 1, 100, 64), ev(mostTime+1, 1, 100, 64), ev(math.MinInt, 1, 100, 64), ev(math.MaxInt, 1, 100, 64),
}

func ev(time, key, value int, label uint64) api.Event {
	return api.Event{Time: time, Key: key, Value: value, Label: label}
}

func row(start, key, value, count int, label uint64) api.Row {
	return api.Row{Start: start, Key: key, Value: value, Count: count, Label: label}
}

func of(size, slide, kind int, es ...api.Event) *panes.Panes {
	p := panes.New(size, slide, kind)
	p.Put(es...)
	return p
}

// model keeps every event of every window by itself, and reckons with all of them when it is asked.
type model struct {
	size, slide, kind int
	put               []entry
}

type entry struct {
	start int
	event api.Event
}

// starts tries all windows near a time.
func (m *model) starts(time int) []int {
	var found []int
	if time < 0 || time > mostTime {
		return nil
	}
	for n := time/m.slide - 20; n <= time/m.slide+2; n++ {
		start := n * m.slide
		if start >= 0 && start <= time && time < start+m.size {
			found = append(found, start)
		}
	}
	return found
}

func (m *model) Put(es ...api.Event) {
	for _, e := range es {
		for _, start := range m.starts(e.Time) {
			m.put = append(m.put, entry{start, e})
		}
	}
}

func (m *model) Open() []api.Row { return m.rows(func(entry) bool { return true }) }

func (m *model) Close(mark int) []api.Row {
	ended := func(e entry) bool { return e.start+m.size <= mark }
	closed := m.rows(ended)
	m.put = slices.DeleteFunc(m.put, ended)
	return closed
}

// rows tells the rows of all that ask says true of.
func (m *model) rows(ask func(entry) bool) []api.Row {
	type window struct{ start, key int }
	values, labels := map[window][]int{}, map[window]uint64{}
	for _, e := range m.put {
		if ask(e) {
			w := window{e.start, e.event.Key}
			values[w] = append(values[w], e.event.Value)
			labels[w] |= e.event.Label
		}
	}
	var all []api.Row
	for w, vs := range values {
		all = append(all, row(w.start, w.key, slowValue(m.kind, vs), len(vs), labels[w]))
	}
	slices.SortFunc(all, func(a, b api.Row) int { return cmp.Or(cmp.Compare(a.Start, b.Start), cmp.Compare(a.Key, b.Key)) })
	return all
}

// slowValue tells what these values come to, at least one, of all of them at once.
func slowValue(kind int, vs []int) int {
	switch kind {
	case 1:
		return len(vs)
	case 2:
		var sum uint64
		for _, v := range vs {
			sum += uint64(v)
		}
		return int(sum)
	case 3:
		return slices.Min(vs)
	case 4:
		return slices.Max(vs)
	}
	return 0
}

func same(t *testing.T, what string, got, want []api.Row) {
	t.Helper()
	if !slices.Equal(got, want) {
		t.Errorf("%s: %v; want %v", what, got, want)
	}
}

// holds asks for the rows that are open, and that Len is as many.
func holds(t *testing.T, what string, p *panes.Panes, want ...api.Row) {
	t.Helper()
	same(t, what, p.Open(), want)
	if p.Len() != len(want) {
		t.Errorf("%s: Len %d; want %d", what, p.Len(), len(want))
	}
}

func TestRuns(t *testing.T) {
	p := of(10, 5, api.ASum, ev(7, 1, 3, 1), ev(12, 1, 4, 1))
	holds(t, "put", p, row(0, 1, 3, 1, 1), row(5, 1, 7, 2, 1), row(10, 1, 4, 1, 1))
	same(t, "Close(15)", p.Close(15), []api.Row{row(0, 1, 3, 1, 1), row(5, 1, 7, 2, 1)})
	holds(t, "closed", p, row(10, 1, 4, 1, 1))
}

// P8.1

func TestNewHasNothingOpen(t *testing.T) {
	for _, s := range slices.Concat(rights, wrongs) {
		for _, kind := range kinds {
			p := panes.New(s.size, s.slide, kind)
			holds(t, "new", p)
			same(t, "closed", p.Close(math.MaxInt), nil)
			holds(t, "new, closed", p)
		}
	}
}

// TestNewOnesAreApart: what is put into one isn't in another of the same sizes.
func TestNewOnesAreApart(t *testing.T) {
	p, q := panes.New(10, 10, api.ASum), panes.New(10, 10, api.ASum)
	p.Put(ev(3, 1, 4, 1))
	holds(t, "the other", q)
	q.Put(ev(5, 1, 9, 2))
	holds(t, "this one", p, row(0, 1, 4, 1, 1))
	holds(t, "the other", q, row(0, 1, 9, 1, 2))
}

func TestWrongSizesNeverOpen(t *testing.T) {
	for _, s := range wrongs {
		for _, kind := range kinds {
			p := panes.New(s.size, s.slide, kind)
			for _, e := range mixed {
				p.Put(e)
				holds(t, "wrong, one by one", p)
			}
			p.Put(mixed...)
			holds(t, "wrong", p)
			holds(t, "wrong, copied", p.Copy())
			for _, mark := range []int{math.MinInt, -1, 0, 1, 1000, math.MaxInt} {
				same(t, "wrong, closed", p.Close(mark), nil)
			}
			holds(t, "wrong, closed", p)
		}
	}
}

// TestLen: keys of one window count by themselves, and events of one key and window count once.
func TestLen(t *testing.T) {
	p := panes.New(10, 5, api.ACount)
	for _, q := range []struct {
		e    api.Event
		want int
	}{
		{ev(0, 1, 1, 1), 1}, {ev(4, 1, 1, 1), 1}, {ev(4, 2, 1, 1), 2}, {ev(5, 1, 1, 1), 3}, {ev(9, 2, 1, 1), 4}, {ev(12, 1, 1, 1), 5},
		{ev(12, 3, 1, 1), 7}, {ev(-1, 1, 1, 1), 7}, {ev(mostTime+1, 1, 1, 1), 7}, {ev(0, 1, 1, 1), 7}, {ev(mostTime, 1, 1, 1), 9},
	} {
		p.Put(q.e)
		if n := p.Len(); n != q.want || n != len(p.Open()) {
			t.Errorf("Len behind %v: %d; want %d", q.e, n, q.want)
		}
	}
	for _, q := range []struct{ mark, want int }{{9, 9}, {10, 7}, {10, 7}, {14, 7}, {15, 4}, {20, 2}, {mostTime, 2}, {mostTime + 10, 0}} {
		p.Close(q.mark)
		if n := p.Len(); n != q.want {
			t.Errorf("Len behind Close(%d): %d; want %d", q.mark, n, q.want)
		}
	}
}

func TestCopyIsTheSame(t *testing.T) {
	for _, s := range rights {
		for _, kind := range kinds {
			p := of(s.size, s.slide, kind, mixed...)
			want := p.Open()
			c := p.Copy()
			holds(t, "copy", c, want...)
			holds(t, "copied", p, want...)
			// Sizes and kind are the same, too: it goes on alike.
			more := []api.Event{ev(7, 1, 1, 1<<40), ev(55, 4, -2, 1), ev(56, 4, -3, 1)}
			p.Put(more...)
			c.Put(more...)
			holds(t, "copy, put", c, p.Open()...)
			same(t, "copy, closed", c.Close(60), p.Close(60))
			holds(t, "copy, closed", c, p.Open()...)
		}
	}
}

func TestCopyOfNoWindows(t *testing.T) {
	for _, emptied := range []bool{false, true} {
		p := panes.New(10, 5, api.ASum)
		if emptied {
			p.Put(ev(7, 1, 3, 1), ev(12, 1, 4, 1))
			p.Close(mostTime)
		}
		c := p.Copy()
		holds(t, "copy", c)
		c.Put(ev(3, 1, 4, 1))
		holds(t, "copied", p)
		holds(t, "copy, put", c, row(0, 1, 4, 1, 1))
		p.Put(ev(2, 2, 9, 2), ev(3, 3, 9, 2))
		holds(t, "copied, put", p, row(0, 2, 9, 1, 2), row(0, 3, 9, 1, 2))
		holds(t, "copy", c, row(0, 1, 4, 1, 1))
	}
}

// TestCopiesAreApart does to one what the other must not see: windows that both have, new ones ahead, between and behind, and closed ones.
func TestCopiesAreApart(t *testing.T) {
	first := []api.Event{ev(17, 1, 3, 1), ev(12, 5, 4, 2), ev(31, 1, 8, 1)}
	more := []api.Event{ev(17, 1, 9, 4), ev(2, 1, 1, 1), ev(17, 0, 5, 1), ev(12, 9, 5, 1), ev(50, 1, 5, 1), ev(31, 1, 8, 8)}
	for _, kind := range kinds {
		for _, turned := range []bool{false, true} {
			touched := of(10, 5, kind, first...)
			left := touched.Copy()
			if turned {
				touched, left = left, touched
			}
			want := left.Open()
			for _, e := range more {
				touched.Put(e)
				holds(t, "left", left, want...)
			}
			for _, mark := range []int{5, 15, 20, 25, mostTime} {
				touched.Close(mark)
				holds(t, "left", left, want...)
			}
			touched.Put(first[1:]...)
			holds(t, "left", left, want...)
			same(t, "left, closed", left.Close(mostTime), want)
			holds(t, "touched", touched, of(10, 5, kind, first[1:]...).Open()...)
		}
	}
}

// TestCopyBehindClose: a list that has room again is shared by no copies that both put into it.
func TestCopyBehindClose(t *testing.T) {
	p := panes.New(1, 1, api.ASum)
	for time := range 50 {
		p.Put(ev(time, 1, time, 1))
	}
	p.Close(45)
	c, d := p.Copy(), p.Copy()
	p.Put(ev(60, 1, 1, 1), ev(61, 1, 1, 1))
	c.Put(ev(70, 2, 2, 2))
	d.Put(ev(45, 0, 3, 4))
	rest := []api.Row{row(45, 1, 45, 1, 1), row(46, 1, 46, 1, 1), row(47, 1, 47, 1, 1), row(48, 1, 48, 1, 1), row(49, 1, 49, 1, 1)}
	holds(t, "first", p, slices.Concat(rest, []api.Row{row(60, 1, 1, 1, 1), row(61, 1, 1, 1, 1)})...)
	holds(t, "second", c, slices.Concat(rest, []api.Row{row(70, 2, 2, 1, 2)})...)
	holds(t, "third", d, slices.Concat([]api.Row{row(45, 0, 3, 1, 4)}, rest)...)
}

// P8.2

func TestPutOfNone(t *testing.T) {
	p := panes.New(10, 5, api.ASum)
	p.Put()
	p.Put(nil...)
	p.Put([]api.Event{}...)
	holds(t, "none", p)
	p.Put(ev(7, 1, 3, 1))
	p.Put()
	p.Put(nil...)
	p.Put([]api.Event{}...)
	holds(t, "one, then none", p, row(0, 1, 3, 1, 1), row(5, 1, 3, 1, 1))
}

func TestPutOfOne(t *testing.T) {
	for _, q := range []struct {
		p    pair
		e    api.Event
		want []api.Row
	}{
		{pair{10, 10}, ev(3, 1, 4, 1), []api.Row{row(0, 1, 4, 1, 1)}},
		{pair{10, 10}, ev(23, 1, 4, 1), []api.Row{row(20, 1, 4, 1, 1)}},
		{pair{10, 5}, ev(3, 1, 4, 1), []api.Row{row(0, 1, 4, 1, 1)}},
		{pair{10, 5}, ev(12, 6, -4, 3), []api.Row{row(5, 6, -4, 1, 3), row(10, 6, -4, 1, 3)}},
		{pair{10, 4}, ev(12, 6, 0, 0), []api.Row{row(4, 6, 0, 1, 0), row(8, 6, 0, 1, 0), row(12, 6, 0, 1, 0)}},
		{pair{1, 1}, ev(mostTime, -1, 7, 1), []api.Row{row(mostTime, -1, 7, 1, 1)}},
		{pair{10, 10}, ev(3, math.MinInt, math.MinInt, 1<<63), []api.Row{row(0, math.MinInt, math.MinInt, 1, 1<<63)}},
		{pair{10, 10}, ev(3, math.MaxInt, math.MaxInt, math.MaxUint64), []api.Row{row(0, math.MaxInt, math.MaxInt, 1, math.MaxUint64)}},
	} {
		for _, kind := range []int{api.ASum, api.AMin, api.AMax} {
			holds(t, "one", of(q.p.size, q.p.slide, kind, q.e), q.want...)
		}
	}
}

// TestPutOfEightWindows: a time may be in as many windows as MaxPanes.
func TestPutOfEightWindows(t *testing.T) {
	var want []api.Row
	for start := 10; start <= 80; start += 10 {
		want = append(want, row(start, 3, -2, 1, 5))
	}
	holds(t, "eight", of(80, 10, api.ASum, ev(89, 3, -2, 5)), want...)
}

// TestEdgesOfWindows: a time at a window's start is in it, one just ahead of its end too, one at its end isn't.
func TestEdgesOfWindows(t *testing.T) {
	for _, q := range []struct {
		p      pair
		time   int
		starts []int
	}{
		{pair{10, 10}, 0, []int{0}}, {pair{10, 10}, 9, []int{0}}, {pair{10, 10}, 10, []int{10}}, {pair{10, 10}, 19, []int{10}}, {pair{10, 10}, 20, []int{20}},
		{pair{10, 5}, 0, []int{0}}, {pair{10, 5}, 4, []int{0}}, {pair{10, 5}, 5, []int{0, 5}}, {pair{10, 5}, 9, []int{0, 5}}, {pair{10, 5}, 10, []int{5, 10}}, {pair{10, 5}, 14, []int{5, 10}}, {pair{10, 5}, 15, []int{10, 15}},
		{pair{10, 4}, 3, []int{0}}, {pair{10, 4}, 9, []int{0, 4, 8}}, {pair{10, 4}, 10, []int{4, 8}}, {pair{10, 4}, 12, []int{4, 8, 12}},
		{pair{1, 1}, 0, []int{0}}, {pair{1, 1}, 1, []int{1}}, {pair{1, 1}, mostTime, []int{mostTime}},
		{pair{mostSize, mostSize}, mostSize - 1, []int{0}}, {pair{mostSize, mostSize}, mostSize, []int{mostSize}},
		{pair{mostSize, mostSize}, mostTime - 1, []int{mostTime - mostSize}}, {pair{mostSize, mostSize}, mostTime, []int{mostTime}},
	} {
		var want []api.Row
		for _, start := range q.starts {
			want = append(want, row(start, 1, 3, 1, 1))
		}
		holds(t, "edge", of(q.p.size, q.p.slide, api.ASum, ev(q.time, 1, 3, 1)), want...)
	}
}

// TestTimesThatMayNotBe: they are in no window, and those beside them stay.
func TestTimesThatMayNotBe(t *testing.T) {
	for _, s := range rights {
		for _, time := range []int{-1, -5, -mostSize, math.MinInt, mostTime + 1, mostTime + mostSize, 1 << 62, math.MaxInt} {
			p := of(s.size, s.slide, api.ASum, ev(time, 1, 3, 1))
			holds(t, "alone", p)
			p.Put(ev(0, 1, 3, 1), ev(time, 1, 4, 2), ev(0, 1, 5, 4))
			holds(t, "between", p, row(0, 1, 8, 2, 5))
		}
	}
}

func TestKinds(t *testing.T) {
	es := []api.Event{ev(3, 2, 5, 1), ev(1, -1, -4, 2), ev(3, 2, -6, 4), ev(2, -1, -3, 2), ev(9, 0, 7, 1), ev(0, 2, 2, 1)}
	for _, q := range []struct{ kind, below, two, zero int }{
		{api.ACount, 2, 3, 1}, {api.ASum, -7, 1, 7}, {api.AMin, -4, -6, 7}, {api.AMax, -3, 5, 7}, {0, 0, 0, 0}, {5, 0, 0, 0}, {-1, 0, 0, 0}, {math.MaxInt, 0, 0, 0},
	} {
		holds(t, "kind", of(4, 4, q.kind, es...), row(0, -1, q.below, 2, 2), row(0, 2, q.two, 3, 5), row(8, 0, q.zero, 1, 1))
	}
}

// TestFirstValueIsTaken: a window that opens is of no values, not of a 0.
func TestFirstValueIsTaken(t *testing.T) {
	for _, v := range []int{math.MinInt, -9, -1, 0, 1, 9, math.MaxInt} {
		for _, kind := range []int{api.ASum, api.AMin, api.AMax} {
			holds(t, "first", of(10, 5, kind, ev(7, 1, v, 1)), row(0, 1, v, 1, 1), row(5, 1, v, 1, 1))
		}
	}
}

func TestSumGoesRound(t *testing.T) {
	p := of(10, 10, api.ASum, ev(1, 1, math.MaxInt, 1), ev(2, 1, 1, 1), ev(1, 2, math.MinInt, 1), ev(2, 2, -1, 1))
	holds(t, "round", p, row(0, 1, math.MinInt, 2, 1), row(0, 2, math.MaxInt, 2, 1))
}

// TestKeysAreApart: several keys at one time have a window each, of values and of labels.
func TestKeysAreApart(t *testing.T) {
	p := of(10, 5, api.ASum, ev(7, 2, 1, 1), ev(7, 0, 2, 2), ev(7, -2, 4, 4), ev(7, 1<<32+2, 8, 8), ev(7, 2, 16, 16), ev(7, 255, 32, 32))
	var want []api.Row
	for _, start := range []int{0, 5} {
		want = append(want, row(start, -2, 4, 1, 4), row(start, 0, 2, 1, 2), row(start, 2, 17, 2, 17), row(start, 255, 32, 1, 32), row(start, 1<<32+2, 8, 1, 8))
	}
	holds(t, "keys", p, want...)
}

// TestWindowsAreApart: an event is in no other window than those of its time.
func TestWindowsAreApart(t *testing.T) {
	p := of(10, 10, api.AMax, ev(9, 1, 5, 1), ev(10, 1, 3, 2), ev(1<<32+9, 1, 1, 4))
	holds(t, "windows", p, row(0, 1, 5, 1, 1), row(10, 1, 3, 1, 2), row((1<<32+9)/10*10, 1, 1, 1, 4))
}

func TestLabelsJoin(t *testing.T) {
	p := of(10, 5, api.AMin, ev(7, 1, 3, 1))
	holds(t, "one", p, row(0, 1, 3, 1, 1), row(5, 1, 3, 1, 1))
	p.Put(ev(7, 1, 9, 4))
	holds(t, "two", p, row(0, 1, 3, 2, 5), row(5, 1, 3, 2, 5))
	p.Put(ev(8, 1, 9, 4|1<<63))
	holds(t, "again, and the highest", p, row(0, 1, 3, 3, 5|1<<63), row(5, 1, 3, 3, 5|1<<63))
	p.Put(ev(11, 1, 9, 2))
	holds(t, "in one of them", p, row(0, 1, 3, 3, 5|1<<63), row(5, 1, 3, 4, 7|1<<63), row(10, 1, 9, 1, 2))
	p.Put(ev(1, 1, 9, 0))
	holds(t, "nothing", p, row(0, 1, 3, 4, 5|1<<63), row(5, 1, 3, 4, 7|1<<63), row(10, 1, 9, 1, 2))
}

func TestPutAtOnceAndOneByOne(t *testing.T) {
	for _, s := range rights {
		for _, kind := range kinds {
			m := &model{size: s.size, slide: s.slide, kind: kind}
			p := panes.New(s.size, s.slide, kind)
			for _, e := range mixed {
				m.Put(e)
				p.Put(e)
				holds(t, "one by one", p, m.Open()...)
			}
			holds(t, "at once", of(s.size, s.slide, kind, mixed...), m.Open()...)
			for cut := range mixed {
				parts := of(s.size, s.slide, kind, mixed[:cut]...)
				parts.Put(mixed[cut:]...)
				holds(t, "in two parts", parts, m.Open()...)
			}
		}
	}
}

// P8.3

// TestCloseAtEdges: a window ends at its Start and size, whatever was put into it.
func TestCloseAtEdges(t *testing.T) {
	for _, s := range rights {
		for _, time := range []int{0, s.size - 1, s.size, 5 * s.size, mostTime} {
			start := time / s.slide * s.slide
			one := row(start, 1, 3, 1, 1)
			for _, q := range []struct {
				mark   int
				closed bool
			}{
				{start + s.size - 1, false}, {start + s.size, true}, {start + s.size + 1, true},
				{start, false}, {0, false}, {-1, false}, {math.MinInt, false}, {math.MaxInt, true},
			} {
				p := of(s.size, s.slide, api.ASum, ev(time, 1, 3, 1))
				all := p.Open()
				got := p.Close(q.mark)
				if slices.Contains(got, one) != q.closed || slices.Contains(p.Open(), one) == q.closed {
					t.Errorf("%v, time %d: Close(%d): %v, open %v", s, time, q.mark, got, p.Open())
				}
				same(t, "all", slices.Concat(got, p.Open()), all)
			}
		}
	}
}

func TestCloseOneByOne(t *testing.T) {
	p := of(10, 5, api.ASum, ev(12, 3, 4, 2), ev(7, 1, 3, 1), ev(7, -1, 5, 1))
	for _, q := range []struct {
		mark   int
		closed []api.Row
		left   int
	}{
		{-1, nil, 6}, {0, nil, 6}, {9, nil, 6},
		{10, []api.Row{row(0, -1, 5, 1, 1), row(0, 1, 3, 1, 1)}, 4}, {10, nil, 4}, {14, nil, 4},
		{16, []api.Row{row(5, -1, 5, 1, 1), row(5, 1, 3, 1, 1), row(5, 3, 4, 1, 2)}, 1}, {15, nil, 1}, {0, nil, 1}, {19, nil, 1},
		{20, []api.Row{row(10, 3, 4, 1, 2)}, 0}, {20, nil, 0}, {math.MaxInt, nil, 0},
	} {
		same(t, "closed", p.Close(q.mark), q.closed)
		if p.Len() != q.left || len(p.Open()) != q.left {
			t.Errorf("behind Close(%d): Len %d, open %v; want %d", q.mark, p.Len(), p.Open(), q.left)
		}
	}
}

// TestCloseAgain: at the same mark nothing more is closed, and what is left stays.
func TestCloseAgain(t *testing.T) {
	for _, s := range rights {
		p := of(s.size, s.slide, api.AMax, mixed...)
		for _, mark := range []int{0, 8, 10, 15, 50, 1 << 33, mostTime, mostTime + mostSize} {
			p.Close(mark)
			left := p.Open()
			same(t, "again", p.Close(mark), nil)
			same(t, "at a lower mark", p.Close(mark-1), nil)
			same(t, "at the least mark", p.Close(math.MinInt), nil)
			holds(t, "left", p, left...)
		}
		holds(t, "all closed", p)
	}
}

// TestClosedOnesBeginAnew: nothing of what was there is kept.
func TestClosedOnesBeginAnew(t *testing.T) {
	for _, q := range []struct{ kind, value int }{{api.ACount, 1}, {api.ASum, -2}, {api.AMin, -2}, {api.AMax, -2}, {0, 0}} {
		p := of(10, 5, q.kind, ev(7, 1, 3, 1), ev(7, 1, -9, 4))
		p.Close(15)
		holds(t, "closed", p)
		p.Put(ev(8, 1, -2, 2))
		holds(t, "anew", p, row(0, 1, q.value, 1, 2), row(5, 1, q.value, 1, 2))
		same(t, "anew, closed", p.Close(10), []api.Row{row(0, 1, q.value, 1, 2)})
	}
}

// TestOrderOfRows: by Start, then Key, keys below 0 first, in whatever order they were put.
func TestOrderOfRows(t *testing.T) {
	p := panes.New(10, 10, api.ASum)
	for _, time := range []int{30, 0, 20, 1 << 33, 10} {
		for _, key := range []int{5, math.MaxInt, -7, 0, math.MinInt, 255, 1 << 32, -1} {
			p.Put(ev(time, key, key, 1))
		}
	}
	var want []api.Row
	for _, start := range []int{0, 10, 20, 30, 1 << 33 / 10 * 10} {
		for _, key := range []int{math.MinInt, -7, -1, 0, 5, 255, 1 << 32, math.MaxInt} {
			want = append(want, row(start, key, key, 1, 1))
		}
	}
	holds(t, "open", p, want...)
	same(t, "some", p.Close(25), want[:16])
	holds(t, "left", p, want[16:]...)
	same(t, "the others", p.Close(math.MaxInt), want[16:])
}

func TestOpenStays(t *testing.T) {
	p := of(10, 5, api.ASum, mixed...)
	first := p.Open()
	second := p.Open()
	same(t, "twice", second, first)
	holds(t, "again", p, first...)
	same(t, "closed", p.Close(math.MaxInt), first)
	same(t, "nothing", p.Open(), nil)
	same(t, "nothing, twice", p.Open(), nil)
}

// TestLongRun goes on and on as a pipe does: events of about the mark, late ones too, and marks.
func TestLongRun(t *testing.T) {
	for _, s := range rights {
		for _, kind := range kinds[:5] {
			p, m := panes.New(s.size, s.slide, kind), &model{size: s.size, slide: s.slide, kind: kind}
			mark, seed := 0, uint64(s.size*31+kind)
			next := func(n int) int {
				seed = seed*6364136223846793005 + 1442695040888963407
				return int(seed >> 33 % uint64(n))
			}
			for range 120 {
				e := ev(mark+next(3*s.size)-s.size/2, next(5)-2, next(41)-20, 1<<next(64))
				p.Put(e)
				m.Put(e)
				if next(4) == 0 {
					mark += next(s.size + 1)
					same(t, "closed", p.Close(mark), m.Close(mark))
				}
				holds(t, "open", p, m.Open()...)
			}
		}
	}
}

// P8.4

// orders tells all orders of the events.
func orders(es []api.Event) [][]api.Event {
	if len(es) == 0 {
		return [][]api.Event{nil}
	}
	var all [][]api.Event
	for i, e := range es {
		rest := slices.Delete(slices.Clone(es), i, i+1)
		for _, order := range orders(rest) {
			all = append(all, append([]api.Event{e}, order...))
		}
	}
	return all
}

func TestEveryOrder(t *testing.T) {
	es := []api.Event{ev(7, 1, 3, 1), ev(12, 1, -4, 2), ev(7, 0, 9, 4), ev(3, 1, 3, 8), ev(9, 1, math.MaxInt, 16), ev(12, -1, math.MinInt, 32)}
	for _, kind := range kinds {
		want := (&model{size: 10, slide: 5, kind: kind})
		want.Put(es...)
		open := want.Open()
		closed := want.Close(15)
		for _, order := range orders(es) {
			p := of(10, 5, kind, order...)
			holds(t, "another order", p, open...)
			same(t, "another order, closed", p.Close(15), closed)
			holds(t, "another order, left", p, want.Open()...)
		}
	}
}

func TestTurnedRound(t *testing.T) {
	for _, s := range rights {
		for _, kind := range kinds {
			want := of(s.size, s.slide, kind, mixed...).Open()
			for turn := range mixed {
				es := slices.Concat(mixed[turn:], mixed[:turn])
				holds(t, "turned", of(s.size, s.slide, kind, es...), want...)
				slices.Reverse(es)
				holds(t, "turned, backward", of(s.size, s.slide, kind, es...), want...)
			}
		}
	}
}

// R2 and R5

// spoil writes over all of the rows, and over the room behind them.
func spoil(rows []api.Row) {
	all := rows[:cap(rows)]
	for i := range all {
		all[i] = row(-5, -5, -5, -5, 5)
	}
	_ = append(rows, row(-6, -6, -6, -6, 6))
}

func TestRowsAreNew(t *testing.T) {
	p := of(10, 5, api.ASum, mixed...)
	c := p.Copy()
	want, second := p.Open(), p.Open()
	spoil(p.Open())
	same(t, "another answer", second, want)
	holds(t, "open", p, want...)
	closed := p.Close(15)
	kept := slices.Clone(closed)
	p.Put(mixed...)
	p.Close(20)
	same(t, "an answer of before", closed, kept)
	left := p.Open()
	spoil(closed)
	holds(t, "left", p, left...)
	holds(t, "copy", c, want...)
	p.Put(ev(7, 1, 3, 1))
	if !slices.Contains(p.Open(), row(0, 1, 3, 1, 1)) {
		t.Error("spoilt", p.Open())
	}
}

func TestEventsAreLeftAlone(t *testing.T) {
	es := []api.Event{ev(7, 1, 3, 1), ev(12, 1, 4, 2), ev(7, 2, 5, 4), ev(3, 1, 100, 8)}
	kept := slices.Clone(es)
	p := panes.New(10, 5, api.ASum)
	p.Put(es[:2]...)
	want := []api.Row{row(0, 1, 3, 1, 1), row(5, 1, 7, 2, 3), row(10, 1, 4, 1, 2)}
	holds(t, "behind is read", p, want...)
	p.Put(es[2:2]...)
	holds(t, "of none behind is read", p, want...)
	if !slices.Equal(es, kept) {
		t.Error("changed", es)
	}
	for i := range es {
		es[i] = ev(1, 1, 1, 1)
	}
	holds(t, "kept", p, want...)
}
