package runner_test

import (
	"cmp"
	"math"
	"slices"
	"testing"

	"cordon/api"
	"cordon/runner"
)

const (
	mostOps  = 6
	mostKey  = 255
	mostTime = 1 << 40
	mostSize = 1 << 20
	mostMark = mostTime + mostSize
	none     = -1
)

// noTimes holds times that no event may have.
var noTimes = []int{-1, -2, -10, math.MinInt32, -mostTime, math.MinInt, mostTime + 1, mostTime + 2, mostMark, mostMark + 1, 1 << 41, 1 << 62, math.MaxInt}

// noMarks holds marks that no clock takes, wherever it is.
var noMarks = []int{0, -1, -2, -10, math.MinInt32, -mostMark, math.MinInt, mostMark + 1, mostMark + 2, 1 << 41, 1 << 62, math.MaxInt}

func op(kind, n int) api.Op { return api.Op{Kind: kind, N: n} }

func of(size, slide, agg int, ops ...api.Op) api.Pipe {
	return api.Pipe{Ops: ops, Size: size, Slide: slide, Agg: agg, Sink: none, Feed: none}
}

func ev(time, key, value int, label uint64) api.Input {
	return api.Input{Event: api.Event{Time: time, Key: key, Value: value, Label: label}}
}

// at is an event of a time whose key, value and label say little.
func at(time, value int) api.Input { return ev(time, 0, value, 1) }

// mark fills what doesn't count of a mark, so that a test fails if it counted.
func mark(time int) api.Input {
	return api.Input{Mark: true, Event: api.Event{Time: time, Key: 9, Value: 99, Label: 999}}
}

func row(start, key, value, count int, label uint64) api.Row {
	return api.Row{Start: start, Key: key, Value: value, Count: count, Label: label}
}

func samePipe(p, q api.Pipe) bool {
	return p.Size == q.Size && p.Slide == q.Slide && p.Agg == q.Agg && p.Sink == q.Sink && p.Feed == q.Feed && slices.Equal(p.Ops, q.Ops)
}

func rightPipes() []api.Pipe {
	pipes := []api.Pipe{
		of(10, 10, 2, op(2, 2)), of(10, 5, 1), of(1, 1, 3), of(8, 1, 4), of(10, 4, 2, op(3, 5)), of(mostSize, mostSize, 2), of(mostSize, mostSize/8, 1),
		of(10, 5, 2, op(1, math.MinInt), op(2, math.MaxInt), op(3, mostKey+1), op(4, math.MinInt), op(5, math.MaxInt), op(6, mostKey)),
		of(10, 5, 2, op(3, 1), op(6, 0)), of(7, 3, 2, op(4, 0), op(3, 3)),
	}
	for _, n := range []int{0, 3} {
		p := of(10, 5, 2, op(1, 1))
		p.Sink, p.Feed = n, 3-n
		pipes = append(pipes, p)
	}
	return pipes
}

// wrongPipes holds pipes each of which may not be for a reason of its own.
func wrongPipes() []api.Pipe {
	pipes := []api.Pipe{
		{}, {Ops: []api.Op{op(1, 1)}, Sink: none, Feed: none}, of(0, 0, 2), of(10, 0, 2), of(10, -5, 2), of(-10, -5, 2), of(4, 5, 2), of(9, 1, 2),
		of(mostSize+1, mostSize+1, 2), of(mostSize, mostSize/8-1, 2), of(math.MaxInt, math.MaxInt, 2), of(10, 5, 0), of(10, 5, 5), of(10, 5, -1), of(10, 5, 1<<32+2),
		of(10, 5, 2, slices.Repeat([]api.Op{op(1, 1)}, mostOps+1)...),
	}
	for _, o := range []api.Op{{}, op(-1, 1), op(7, 1), op(3, 0), op(3, -1), op(3, mostKey+2), op(6, -1), op(6, mostKey+1)} {
		pipes = append(pipes, of(10, 5, 2, o), of(10, 5, 2, op(1, 1), o))
	}
	for _, n := range []int{-2, 4, 1 << 32, math.MinInt, math.MaxInt} {
		p, q := of(10, 5, 2), of(10, 5, 2)
		p.Sink, q.Feed = n, n
		pipes = append(pipes, p, q)
	}
	return pipes
}

// model keeps all that it was ever given, and tells by the marks alone what is open and what just closed.
type model struct {
	pipe             api.Pipe
	mark, late, seen int
	put              []entry
}

type entry struct{ start, key, value, label int }

func (m *model) take(in api.Input) []api.Row {
	time := in.Event.Time
	if in.Mark {
		old := m.mark
		if time <= old || time > mostMark {
			return nil
		}
		m.mark = time
		return m.rows(func(end int) bool { return old < end && end <= time })
	}
	if time < 0 || time > mostTime {
		return nil
	}
	m.seen++
	if time < m.mark {
		m.late++
		return nil
	}
	m.lay(in.Event)
	return nil
}

// lay tries all windows near the event.
func (m *model) lay(e api.Event) {
	key, value, passes := slowOps(m.pipe.Ops, e.Key, e.Value)
	if !passes {
		return
	}
	for n := e.Time/m.pipe.Slide - 20; n <= e.Time/m.pipe.Slide; n++ {
		if start := n * m.pipe.Slide; start >= 0 && e.Time < start+m.pipe.Size {
			m.put = append(m.put, entry{start, key, value, int(e.Label)})
		}
	}
}

func (m *model) open() []api.Row { return m.rows(func(end int) bool { return end > m.mark }) }

// rows tells the rows of the windows that have an end that ask says true of.
func (m *model) rows(ask func(end int) bool) []api.Row {
	type window struct{ start, key int }
	values, labels := map[window][]int{}, map[window]int{}
	for _, e := range m.put {
		if ask(e.start + m.pipe.Size) {
			w := window{e.start, e.key}
			values[w] = append(values[w], e.value)
			labels[w] |= e.label
		}
	}
	var all []api.Row
	for w, vs := range values {
		all = append(all, row(w.start, w.key, slowValue(m.pipe.Agg, vs), len(vs), uint64(labels[w])))
	}
	slices.SortFunc(all, func(a, b api.Row) int { return cmp.Or(cmp.Compare(a.Start, b.Start), cmp.Compare(a.Key, b.Key)) })
	return all
}

func slowOps(ops []api.Op, key, value int) (int, int, bool) {
	for _, o := range ops {
		passes := true
		switch o.Kind {
		case 1:
			value += o.N
		case 2:
			value *= o.N
		case 3:
			key = (value%o.N + o.N) % o.N
		case 4:
			passes = value > o.N
		case 5:
			passes = value < o.N
		case 6:
			passes = key == o.N
		}
		if !passes {
			return 0, 0, false
		}
	}
	return key, value, true
}

func slowValue(kind int, vs []int) int {
	switch kind {
	case 1:
		return len(vs)
	case 3:
		return slices.Min(vs)
	case 4:
		return slices.Max(vs)
	}
	sum := 0
	for _, v := range vs {
		sum += v
	}
	return sum
}

// scattered tells n inputs about a mark that goes on by and by: ordinary ones, late ones, and such as no runner takes.
func scattered(size, n int, seed uint64) []api.Input {
	next := func(n int) int {
		seed = seed*6364136223846793005 + 1442695040888963407
		return int(seed >> 33 % uint64(n))
	}
	var ins []api.Input
	far := 0
	for range n {
		switch next(12) {
		case 0, 1, 2:
			far += next(size + 2)
			ins = append(ins, mark(far))
		case 3:
			ins = append(ins, mark(far-next(size+2)), mark(noMarks[next(len(noMarks))]))
		case 4:
			ins = append(ins, at(noTimes[next(len(noTimes))], 1))
		default:
			ins = append(ins, ev(far+next(3*size)-size/2, next(5), next(41)-20, 1<<next(60)))
		}
	}
	return ins
}

func same(t *testing.T, what string, got, want []api.Row) {
	t.Helper()
	if !slices.Equal(got, want) {
		t.Errorf("%s: %v; want %v", what, got, want)
	}
}

// stands asks for the clock's numbers, and for the windows that are open.
func stands(t *testing.T, what string, r *runner.Runner, mark, late, seen int, open ...api.Row) {
	t.Helper()
	if r.Mark() != mark || r.Late() != late || r.Seen() != seen {
		t.Errorf("%s: mark %d, late %d, seen %d; want %d, %d, %d", what, r.Mark(), r.Late(), r.Seen(), mark, late, seen)
	}
	same(t, what, r.Open(), open)
	if r.Len() != len(open) {
		t.Errorf("%s: Len %d; want %d", what, r.Len(), len(open))
	}
}

func TestRuns(t *testing.T) {
	r := runner.New(api.Pipe{Size: 10, Slide: 10, Agg: api.ASum, Sink: api.None, Feed: api.None, Ops: []api.Op{{Kind: api.OMul, N: 2}}})
	rows := r.Take(at(3, 5), at(12, 1), mark(10), at(4, 9), mark(20))
	same(t, "rows", rows, []api.Row{row(0, 0, 10, 1, 1), row(10, 0, 2, 1, 1)})
	stands(t, "behind the runs", r, 20, 1, 3)
}

// P10.1

func TestNewOfWrongPipes(t *testing.T) {
	for i, p := range wrongPipes() {
		if r := runner.New(p); r != nil {
			t.Error(i, p, r)
		}
	}
}

func TestNewOfRightPipes(t *testing.T) {
	for i, p := range rightPipes() {
		r := runner.New(p)
		if r == nil {
			t.Error(i, p)
			continue
		}
		stands(t, "new", r, 0, 0, 0)
		same(t, "of none", r.Take(), nil)
		if !samePipe(r.Pipe, p) {
			t.Error(i, r.Pipe)
		}
	}
}

// TestNewKeepsACopy: what the caller does to its Ops later turns nothing, whether they had spare room or not.
func TestNewKeepsACopy(t *testing.T) {
	for _, room := range []int{0, 4} {
		p := of(10, 10, 2)
		p.Ops = append(make([]api.Op, 0, 2+room), op(2, 3), op(1, 1))
		r := runner.New(p)
		p.Ops[0], p.Ops[1] = op(5, math.MinInt), op(7, 7)
		_ = append(p.Ops, op(5, math.MinInt))
		r.Take(at(3, 5))
		stands(t, "turned by the caller", r, 0, 0, 1, row(0, 0, 16, 1, 1))
		if !slices.Equal(r.Pipe.Ops, []api.Op{op(2, 3), op(1, 1)}) {
			t.Error("kept", r.Pipe.Ops)
		}
	}
}

// TestPipeHandedInStays: the runner's own Ops and the room behind them are none of the caller's.
func TestPipeHandedInStays(t *testing.T) {
	ops := []api.Op{op(2, 3), op(1, 1), op(6, 0), op(6, 0)}
	p := of(10, 10, 2, ops[:2]...)
	r := runner.New(p)
	x := r.Twin()
	for _, own := range []*runner.Runner{r, x} {
		own.Take(at(3, 5), mark(10))
		own.Pipe.Ops[0] = op(5, 5)
		_ = append(own.Pipe.Ops, op(5, 5))
		own.Pipe.Size = 1
	}
	if !slices.Equal(ops, []api.Op{op(2, 3), op(1, 1), op(6, 0), op(6, 0)}) || p.Size != 10 {
		t.Error(ops, p)
	}
}

// TestNewOnesAreApart: two runners of one pipe share nothing.
func TestNewOnesAreApart(t *testing.T) {
	p := of(10, 10, 2, op(2, 2))
	r, s := runner.New(p), runner.New(p)
	r.Take(at(3, 5), mark(10), at(4, 1), at(12, 1))
	stands(t, "the other", s, 0, 0, 0)
	s.Pipe.Ops[0] = op(2, 100)
	r.Take(at(13, 1))
	stands(t, "this one", r, 10, 1, 4, row(10, 0, 4, 2, 1))
}

func TestNilAndEmptyOps(t *testing.T) {
	for _, ops := range [][]api.Op{nil, {}, {op(6, 9)}} {
		r := runner.New(of(10, 10, 2, ops[:0]...))
		same(t, "no operations", r.Take(ev(3, 4, -7, 6), mark(10)), []api.Row{row(0, 4, -7, 1, 6)})
		x := r.Twin()
		if len(r.Pipe.Ops) != 0 || len(x.Pipe.Ops) != 0 {
			t.Error(r.Pipe, x.Pipe)
		}
	}
}

func TestTwinOfANewOne(t *testing.T) {
	for i, p := range rightPipes() {
		r := runner.New(p)
		x := r.Twin()
		if x == r || x.Panes == r.Panes || !samePipe(x.Pipe, p) {
			t.Error(i, x.Pipe)
		}
		stands(t, "twin", x, 0, 0, 0)
		x.Take(at(3, 5), mark(2), at(1, 1))
		stands(t, "the other", r, 0, 0, 0)
	}
}

// TestTwinIsTheSame behind inputs of all kinds, and goes on alike.
func TestTwinIsTheSame(t *testing.T) {
	for i, p := range rightPipes() {
		r := runner.New(p)
		ins := scattered(p.Size, 120, uint64(i))
		r.Take(ins[:60]...)
		x := r.Twin()
		if !samePipe(x.Pipe, r.Pipe) {
			t.Error(i, x.Pipe)
		}
		stands(t, "twin", x, r.Mark(), r.Late(), r.Seen(), r.Open()...)
		same(t, "goes on alike", x.Take(ins[60:]...), r.Take(ins[60:]...))
		stands(t, "twin, later", x, r.Mark(), r.Late(), r.Seen(), r.Open()...)
	}
}

// TestTwinsAreApart: each does what the other must not see: windows that both have, new ones on all sides, and closed ones.
func TestTwinsAreApart(t *testing.T) {
	more := []api.Input{ev(17, 1, 9, 4), ev(12, 0, 1, 1), ev(17, 9, 5, 1), ev(50, 1, 5, 1), mark(15), ev(9, 1, 1, 1), mark(30), ev(31, 1, 8, 8), mark(mostMark)}
	for _, turned := range []bool{false, true} {
		touched := runner.New(of(10, 5, 2))
		touched.Take(ev(17, 1, 3, 1), mark(5), ev(2, 1, 1, 1), ev(31, 1, 8, 1))
		left := touched.Twin()
		if turned {
			touched, left = left, touched
		}
		open := []api.Row{row(10, 1, 3, 1, 1), row(15, 1, 3, 1, 1), row(25, 1, 8, 1, 1), row(30, 1, 8, 1, 1)}
		for _, in := range more {
			touched.Take(in)
			stands(t, "left", left, 5, 1, 3, open...)
		}
		touched.Pipe.Ops = append(touched.Pipe.Ops, op(5, math.MinInt))
		same(t, "left, closed", left.Take(ev(18, 1, 1, 2), mark(25)), []api.Row{row(10, 1, 4, 2, 3), row(15, 1, 4, 2, 3)})
		stands(t, "left, later", left, 25, 1, 4, open[2:]...)
		stands(t, "touched", touched, mostMark, 2, 9)
	}
}

// TestTwinsOpsAreApart: the pipe of one is not the pipe of the other.
func TestTwinsOpsAreApart(t *testing.T) {
	r := runner.New(of(10, 10, 2, op(2, 2)))
	x := r.Twin()
	y := x.Twin()
	x.Pipe.Ops[0].N = 50
	for _, q := range []struct {
		r *runner.Runner
		n int
	}{{r, 6}, {x, 150}, {y, 6}} {
		q.r.Take(at(1, 3))
		stands(t, "twins", q.r, 0, 0, 1, row(0, 0, q.n, 1, 1))
	}
}

// TestTwinOfATwin: three in a row, each of which goes on by itself.
func TestTwinOfATwin(t *testing.T) {
	r := runner.New(of(10, 10, 4))
	r.Take(at(3, 1))
	x := r.Twin()
	x.Take(at(4, 7))
	y := x.Twin()
	y.Take(mark(10), at(5, 9))
	stands(t, "first", r, 0, 0, 1, row(0, 0, 1, 1, 1))
	stands(t, "second", x, 0, 0, 2, row(0, 0, 7, 2, 1))
	stands(t, "third", y, 10, 1, 3)
}

// P10.2

func TestTakeOfNone(t *testing.T) {
	r := runner.New(of(10, 10, 2))
	for range 2 {
		same(t, "none", r.Take(), nil)
		same(t, "nil", r.Take(nil...), nil)
		same(t, "empty", r.Take([]api.Input{}...), nil)
	}
	stands(t, "of none", r, 0, 0, 0)
	r.Take(at(3, 5), mark(2), at(1, 1))
	same(t, "none, later", r.Take(), nil)
	same(t, "nil, later", r.Take(nil...), nil)
	stands(t, "of none, later", r, 2, 1, 2, row(0, 0, 5, 1, 1))
}

func TestTakeOneByOne(t *testing.T) {
	r := runner.New(of(10, 5, 2, op(1, 1)))
	for i, q := range []struct {
		in               api.Input
		rows             []api.Row
		mark, late, seen int
		open             []api.Row
	}{
		{ev(7, 1, 3, 1), nil, 0, 0, 1, []api.Row{row(0, 1, 4, 1, 1), row(5, 1, 4, 1, 1)}},
		{ev(12, 1, 4, 2), nil, 0, 0, 2, []api.Row{row(0, 1, 4, 1, 1), row(5, 1, 9, 2, 3), row(10, 1, 5, 1, 2)}},
		{mark(7), nil, 7, 0, 2, []api.Row{row(0, 1, 4, 1, 1), row(5, 1, 9, 2, 3), row(10, 1, 5, 1, 2)}},
		{ev(6, 1, 1, 8), nil, 7, 1, 3, []api.Row{row(0, 1, 4, 1, 1), row(5, 1, 9, 2, 3), row(10, 1, 5, 1, 2)}},
		{ev(7, 0, 1, 8), nil, 7, 1, 4, []api.Row{row(0, 0, 2, 1, 8), row(0, 1, 4, 1, 1), row(5, 0, 2, 1, 8), row(5, 1, 9, 2, 3), row(10, 1, 5, 1, 2)}},
		{mark(9), nil, 9, 1, 4, []api.Row{row(0, 0, 2, 1, 8), row(0, 1, 4, 1, 1), row(5, 0, 2, 1, 8), row(5, 1, 9, 2, 3), row(10, 1, 5, 1, 2)}},
		{mark(10), []api.Row{row(0, 0, 2, 1, 8), row(0, 1, 4, 1, 1)}, 10, 1, 4, []api.Row{row(5, 0, 2, 1, 8), row(5, 1, 9, 2, 3), row(10, 1, 5, 1, 2)}},
		{ev(10, 1, 0, 4), nil, 10, 1, 5, []api.Row{row(5, 0, 2, 1, 8), row(5, 1, 10, 3, 7), row(10, 1, 6, 2, 6)}},
		{mark(40), []api.Row{row(5, 0, 2, 1, 8), row(5, 1, 10, 3, 7), row(10, 1, 6, 2, 6)}, 40, 1, 5, nil},
		{mark(50), nil, 50, 1, 5, nil},
	} {
		if rows := r.Take(q.in); !slices.Equal(rows, q.rows) {
			t.Errorf("%d: %v; want %v", i, rows, q.rows)
		}
		stands(t, "one by one", r, q.mark, q.late, q.seen, q.open...)
	}
}

func TestMarksAlone(t *testing.T) {
	r := runner.New(of(10, 10, 2, op(2, 2)))
	for i, q := range []struct{ mark, want int }{{1, 1}, {10, 10}, {10, 10}, {9, 10}, {0, 10}, {-1, 10}, {20, 20}, {mostTime, mostTime}, {mostMark, mostMark}, {mostMark + 1, mostMark}, {5, mostMark}} {
		same(t, "one mark", r.Take(mark(q.mark)), nil)
		if r.Mark() != q.want {
			t.Error(i, r.Mark(), q.want)
		}
	}
	stands(t, "marks alone", r, mostMark, 0, 0)
	r = runner.New(of(10, 10, 2, op(2, 2)))
	same(t, "at once", r.Take(mark(5), mark(30), mark(20), mark(40)), nil)
	stands(t, "at once", r, 40, 0, 0)
}

func TestEventsAlone(t *testing.T) {
	r := runner.New(of(10, 10, 2))
	same(t, "events", r.Take(at(mostTime, 1), ev(23, 1, 2, 4), at(3, 5), ev(20, 1, 7, 1), at(0, 1), at(mostTime, 2)), nil)
	last := mostTime / 10 * 10
	stands(t, "events alone", r, 0, 0, 6, row(0, 0, 6, 2, 1), row(20, 1, 9, 2, 5), row(last, 0, 3, 2, 1))
}

func TestBothBetween(t *testing.T) {
	r := runner.New(of(10, 5, 1))
	rows := r.Take(mark(2), at(7, 1), at(1, 1), at(2, 1), mark(8), at(7, 1), at(8, 1), mark(10), mark(16), at(15, 1), at(14, 1), at(16, 1), mark(20), at(20, 1), at(40, 1))
	same(t, "rows", rows, []api.Row{row(0, 0, 3, 3, 1), row(5, 0, 2, 2, 1), row(10, 0, 1, 1, 1)})
	stands(t, "between", r, 20, 4, 10, row(15, 0, 2, 2, 1), row(20, 0, 1, 1, 1), row(35, 0, 1, 1, 1), row(40, 0, 1, 1, 1))
}

// TestRowsOfSeveralMarks come in the order of the marks, by Start, then Key in each.
func TestRowsOfSeveralMarks(t *testing.T) {
	r := runner.New(of(10, 10, 2))
	rows := r.Take(ev(23, 1, 4, 1), ev(15, 9, 3, 1), ev(5, 9, 2, 1), ev(4, 2, 1, 1), mark(10), ev(15, 3, 5, 1), mark(35))
	same(t, "several", rows, []api.Row{row(0, 2, 1, 1, 1), row(0, 9, 2, 1, 1), row(10, 3, 5, 1, 1), row(10, 9, 3, 1, 1), row(20, 1, 4, 1, 1)})
}

// TestMarksThatAreRefused turn nothing: above all, they close no window that is open.
func TestMarksThatAreRefused(t *testing.T) {
	for _, reached := range []int{0, 1, 7, 25} {
		r := runner.New(of(10, 10, 2))
		r.Take(mark(reached), at(27, 4), at(34, 5))
		refused := append([]int{reached, reached - 1, reached - 10}, noMarks...)
		for _, m := range refused {
			same(t, "refused", r.Take(mark(m)), nil)
			stands(t, "refused", r, reached, 0, 2, row(20, 0, 4, 1, 1), row(30, 0, 5, 1, 1))
		}
		same(t, "then one above", r.Take(mark(30)), []api.Row{row(20, 0, 4, 1, 1)})
	}
}

// TestGreatestMark: the longest window at the latest time ends just there.
func TestGreatestMark(t *testing.T) {
	r := runner.New(of(mostSize, mostSize, 2))
	r.Take(at(mostTime, 4), mark(mostTime))
	last := row(mostTime, 0, 4, 1, 1)
	for _, m := range []int{mostMark - 1, mostMark + 1, math.MaxInt} {
		same(t, "no end", r.Take(mark(m)), nil)
	}
	stands(t, "one below", r, mostMark-1, 0, 1, last)
	same(t, "the greatest", r.Take(mark(mostMark)), []api.Row{last})
	stands(t, "the greatest", r, mostMark, 0, 1)
	same(t, "beyond", r.Take(mark(mostMark+1), at(mostTime, 1), at(0, 1)), nil)
	stands(t, "beyond", r, mostMark, 2, 3)
}

// TestMarksEventIsNone: of a mark the Time alone counts, even if the rest would be an event; of an event it counts as one.
func TestMarksEventIsNone(t *testing.T) {
	r := runner.New(of(10, 10, 2))
	in := ev(12, 3, 4, 5)
	in.Mark = true
	same(t, "mark", r.Take(in), nil)
	stands(t, "mark", r, 12, 0, 0)
	in.Mark = false
	same(t, "event", r.Take(in), nil)
	stands(t, "event", r, 12, 0, 1, row(10, 3, 4, 1, 5))
}

func TestEventsAboutTheMark(t *testing.T) {
	for _, reached := range []int{0, 1, 5, 10, 13, mostTime - 1, mostTime} {
		for time := max(reached-12, 0); time <= min(reached+12, mostTime); time++ {
			r := runner.New(of(10, 10, 2))
			r.Take(mark(reached))
			same(t, "about", r.Take(at(time, 3)), nil)
			if time < reached {
				stands(t, "below", r, reached, 1, 1)
			} else {
				stands(t, "at or above", r, reached, 0, 1, row(time/10*10, 0, 3, 1, 1))
			}
		}
	}
}

// TestLatestTimes: marks beyond MaxTime leave no time that isn't late.
func TestLatestTimes(t *testing.T) {
	r := runner.New(of(10, 10, 2))
	r.Take(at(mostTime, 1), mark(mostTime), at(mostTime, 2))
	last := row(mostTime/10*10, 0, 3, 2, 1)
	stands(t, "at MaxTime", r, mostTime, 0, 2, last)
	r.Take(mark(mostTime+1), at(mostTime, 4))
	stands(t, "one beyond", r, mostTime+1, 1, 3, last)
}

func TestTimesThatMayNotBe(t *testing.T) {
	for _, p := range rightPipes() {
		r := runner.New(p)
		for _, time := range noTimes {
			same(t, "no time", r.Take(ev(time, 1, 1, 1)), nil)
			stands(t, "no time", r, 0, 0, 0)
		}
	}
	for _, time := range noTimes {
		r := runner.New(of(10, 10, 2))
		r.Take(mark(12), at(13, 1), at(time, 100), at(14, 2), at(time, 100), at(11, 1))
		stands(t, "between others", r, 12, 1, 3, row(10, 0, 3, 2, 1))
	}
}

// TestFiltered ones count as any other: the clock is asked ahead of the operations, late or not.
func TestFiltered(t *testing.T) {
	for _, o := range []api.Op{op(4, 5), op(5, -5), op(6, 1)} {
		r := runner.New(of(10, 10, 2, o))
		same(t, "filtered", r.Take(at(3, 0), at(12, 0), mark(10), at(9, 0), at(10, 0), at(-1, 0), at(mostTime+1, 0), mark(30)), nil)
		stands(t, "filtered", r, 30, 1, 4)
	}
}

func TestOpsThatPassSome(t *testing.T) {
	ins := []api.Input{ev(1, 0, 5, 1), ev(2, 1, 6, 2), ev(3, 2, 7, 4), ev(4, 1, -7, 8)}
	for _, q := range []struct {
		o    api.Op
		want []api.Row
	}{
		{op(4, 5), []api.Row{row(0, 1, 6, 1, 2), row(0, 2, 7, 1, 4)}},
		{op(5, 6), []api.Row{row(0, 0, 5, 1, 1), row(0, 1, -7, 1, 8)}},
		{op(6, 1), []api.Row{row(0, 1, -1, 2, 10)}},
		{op(4, math.MaxInt), nil},
		{op(5, math.MaxInt), []api.Row{row(0, 0, 5, 1, 1), row(0, 1, -1, 2, 10), row(0, 2, 7, 1, 4)}},
	} {
		r := runner.New(of(10, 10, 2, q.o))
		r.Take(ins...)
		stands(t, "passed", r, 0, 0, 4, q.want...)
		same(t, "passed, closed", r.Take(mark(10)), q.want)
	}
}

func TestOpsThatTurn(t *testing.T) {
	ins := []api.Input{ev(1, 9, 5, 1), ev(2, 9, -6, 2), ev(3, 8, 7, 4)}
	for _, q := range []struct {
		ops  []api.Op
		want []api.Row
	}{
		{nil, []api.Row{row(0, 8, 7, 1, 4), row(0, 9, -1, 2, 3)}},
		{[]api.Op{op(1, 10)}, []api.Row{row(0, 8, 17, 1, 4), row(0, 9, 19, 2, 3)}},
		{[]api.Op{op(2, -2)}, []api.Row{row(0, 8, -14, 1, 4), row(0, 9, 2, 2, 3)}},
		{[]api.Op{op(3, 3)}, []api.Row{row(0, 0, -6, 1, 2), row(0, 1, 7, 1, 4), row(0, 2, 5, 1, 1)}},
		{[]api.Op{op(3, 2)}, []api.Row{row(0, 0, -6, 1, 2), row(0, 1, 12, 2, 5)}},
		// In their order: what one makes is what the next one looks at.
		{[]api.Op{op(1, 1), op(2, 3)}, []api.Row{row(0, 8, 24, 1, 4), row(0, 9, 3, 2, 3)}},
		{[]api.Op{op(2, 3), op(1, 1)}, []api.Row{row(0, 8, 22, 1, 4), row(0, 9, -1, 2, 3)}},
		{[]api.Op{op(3, 4), op(6, 1), op(2, 0)}, []api.Row{row(0, 1, 0, 1, 1)}},
		{[]api.Op{op(2, math.MaxInt), op(2, 2)}, []api.Row{row(0, 8, -14, 1, 4), row(0, 9, 2, 2, 3)}},
	} {
		r := runner.New(of(10, 10, 2, q.ops...))
		r.Take(ins...)
		stands(t, "turned", r, 0, 0, 3, q.want...)
	}
}

// TestTimeIsTheOneThatCame: whatever the operations make of an event, neither the mark nor a window is asked of another time.
func TestTimeIsTheOneThatCame(t *testing.T) {
	for _, ops := range [][]api.Op{{op(1, 1000)}, {op(2, -1000)}, {op(3, 7)}, {op(1, math.MinInt)}, {op(2, 0)}, {op(3, 256), op(1, 50), op(2, 1<<40)}} {
		for _, value := range []int{-500, 0, 3, 24, 26, 500, math.MaxInt, math.MinInt} {
			r := runner.New(of(10, 10, 1, ops...))
			key, _, _ := slowOps(ops, 4, value)
			r.Take(mark(25), ev(24, 4, value, 2), ev(25, 4, value, 4))
			stands(t, "times", r, 25, 1, 2, row(20, key, 1, 1, 4))
		}
	}
}

func TestKinds(t *testing.T) {
	for _, q := range []struct{ kind, value int }{{1, 3}, {2, -2}, {3, -9}, {4, 5}} {
		r := runner.New(of(10, 10, q.kind))
		same(t, "kinds", r.Take(at(3, 5), at(4, -9), at(9, 2), mark(10)), []api.Row{row(0, 0, q.value, 3, 1)})
	}
}

// TestKeysAndLabels: the clock says nothing of them, so that any key and any label has its row.
func TestKeysAndLabels(t *testing.T) {
	r := runner.New(of(10, 10, 2))
	rows := r.Take(ev(1, math.MaxInt, 1, 0), ev(2, -1, 2, 1<<63), ev(3, mostKey+1, 3, math.MaxUint64), ev(4, math.MinInt, 4, 6), mark(10))
	same(t, "keys", rows, []api.Row{row(0, math.MinInt, 4, 1, 6), row(0, -1, 2, 1, 1<<63), row(0, mostKey+1, 3, 1, math.MaxUint64), row(0, math.MaxInt, 1, 1, 0)})
}

// TestAgainstModel goes on and on with inputs of all kinds, one by one.
func TestAgainstModel(t *testing.T) {
	told := 0
	for _, p := range rightPipes() {
		for seed := range 8 {
			r, m := runner.New(p), &model{pipe: p}
			for _, in := range scattered(p.Size, 120, uint64(seed)) {
				rows := r.Take(in)
				told += len(rows)
				same(t, "taken", rows, m.take(in))
				stands(t, "taken", r, m.mark, m.late, m.seen, m.open()...)
			}
		}
	}
	if told < 1000 {
		t.Error("told", told)
	}
}

// TestInParts: cut in two anywhere, or in threes, inputs make what they make at once.
func TestInParts(t *testing.T) {
	for i, p := range rightPipes() {
		ins := scattered(p.Size, 60, uint64(i+50))
		once := runner.New(p)
		want := once.Take(ins...)
		for k := range len(ins) + 1 {
			r := runner.New(p)
			same(t, "two parts", append(r.Take(ins[:k]...), r.Take(ins[k:]...)...), want)
			stands(t, "two parts", r, once.Mark(), once.Late(), once.Seen(), once.Open()...)
		}
		r := runner.New(p)
		var rows []api.Row
		for part := range slices.Chunk(ins, 3) {
			rows = append(rows, r.Take(part...)...)
		}
		same(t, "threes", rows, want)
		stands(t, "threes", r, once.Mark(), once.Late(), once.Seen(), once.Open()...)
	}
}

// P10.3

// TestRisingEnds: no row comes ahead of one that ends before it, none twice, none later than at the first mark that reaches its end.
func TestRisingEnds(t *testing.T) {
	type place struct{ start, key int }
	for i, p := range rightPipes() {
		r := runner.New(p)
		told := map[place]int{}
		last := place{-1, 0}
		for _, in := range append(scattered(p.Size, 300, uint64(i+90)), mark(mostMark)) {
			before := r.Mark()
			for _, row := range r.Take(in) {
				here := place{row.Start, row.Key}
				if here.start < last.start || here.start == last.start && here.key <= last.key {
					t.Error(i, "behind", last, "comes", here)
				}
				if end := row.Start + p.Size; end <= before || end > r.Mark() {
					t.Error(i, "of mark", before, "to", r.Mark(), row)
				}
				last = here
				told[here]++
			}
		}
		for here, n := range told {
			if n != 1 {
				t.Error(i, here, n)
			}
		}
		if r.Len() != 0 {
			t.Error(i, r.Open())
		}
	}
}

// TestLateOnesTurnCountsAlone, wherever they come: the rows are as if they had never been.
func TestLateOnesTurnCountsAlone(t *testing.T) {
	for i, p := range rightPipes() {
		r, without := runner.New(p), runner.New(p)
		late := 0
		for _, in := range scattered(p.Size, 150, uint64(i+7)) {
			same(t, "taken", r.Take(in), without.Take(in))
			for _, back := range []int{1, 2, p.Size, r.Mark()} {
				if time := r.Mark() - back; 0 <= time && time <= mostTime && time < r.Mark() {
					same(t, "late", r.Take(ev(time, 2, 1000, 1<<62)), nil)
					late++
				}
			}
			stands(t, "late ones, too", r, without.Mark(), without.Late()+late, without.Seen()+late, without.Open()...)
		}
		if late < 100 {
			t.Error(i, late)
		}
	}
}

// TestLateInAWindowThatIsOpen: it is the mark that counts, not the window's end.
func TestLateInAWindowThatIsOpen(t *testing.T) {
	r := runner.New(of(10, 10, 2))
	r.Take(at(3, 5), mark(8), at(7, 100), at(0, 100), at(8, 1))
	stands(t, "late", r, 8, 2, 4, row(0, 0, 6, 2, 1))
	same(t, "closed", r.Take(mark(10), at(9, 100), mark(20)), []api.Row{row(0, 0, 6, 2, 1)})
	stands(t, "closed", r, 20, 3, 5)
}

// Ways

// face is what a runner has of its clock and of its panes.
type face interface {
	Mark() int
	Late() int
	Seen() int
	On(time int) bool
	Advance(time int) bool
	Len() int
	Open() []api.Row
	Put(es ...api.Event)
	Close(mark int) []api.Row
}

// TestPromoted: they are the clock's and the panes' own.
func TestPromoted(t *testing.T) {
	r := runner.New(of(10, 10, 2))
	var f face = r
	r.Take(at(3, 5), mark(2), at(1, 1))
	if f.Mark() != 2 || f.Late() != 1 || f.Seen() != 2 || f.Len() != 1 {
		t.Error(f.Mark(), f.Late(), f.Seen(), f.Len())
	}
	if r.Clock.Mark() != 2 || r.Clock.Late() != 1 || r.Clock.Seen() != 2 || r.Panes.Len() != 1 {
		t.Error(r.Clock, r.Panes.Len())
	}
	same(t, "open", f.Open(), []api.Row{row(0, 0, 5, 1, 1)})
	same(t, "its panes'", r.Panes.Open(), f.Open())
	// What is done to the parts, the runner goes on with.
	f.Put(api.Event{Time: 4, Value: 7, Label: 2})
	if !f.Advance(6) || f.On(5) || !r.Clock.On(6) {
		t.Error("clock", r.Clock)
	}
	stands(t, "parts", r, 6, 2, 4, row(0, 0, 12, 2, 3))
	same(t, "taken", r.Take(at(5, 1), mark(10)), []api.Row{row(0, 0, 12, 2, 3)})
	stands(t, "taken", r, 10, 3, 5)
}

// R2 and R5

// spoil writes over all of the rows, and over the room behind them.
func spoil(rows []api.Row) {
	all := rows[:cap(rows)]
	for i := range all {
		all[i] = row(-5, -5, -5, -5, 5)
	}
	_ = append(rows, row(-6, -6, -6, -6, 6))
}

func TestRowsAreNew(t *testing.T) {
	r := runner.New(of(10, 5, 2))
	r.Take(ev(7, 1, 3, 1), ev(12, 1, 4, 1), ev(32, 1, 9, 1))
	x := r.Twin()
	open := r.Open()
	kept := slices.Clone(open)
	rows := r.Take(mark(10), mark(15))
	want := slices.Clone(rows)
	left := r.Open()
	r.Take(ev(33, 1, 1, 1), ev(33, 0, 1, 1), mark(20))
	same(t, "an answer of before", rows, want)
	spoil(rows)
	spoil(r.Open())
	stands(t, "twin", x, 0, 0, 3, kept...)
	same(t, "Open's of before", open, kept)
	same(t, "left", left, []api.Row{row(10, 1, 4, 1, 1), row(25, 1, 9, 1, 1), row(30, 1, 9, 1, 1)})
	stands(t, "spoilt", r, 20, 0, 5, row(25, 0, 1, 1, 1), row(25, 1, 10, 2, 1), row(30, 0, 1, 1, 1), row(30, 1, 10, 2, 1))
	same(t, "twin's", x.Take(mark(10), mark(15)), want)
}

func TestInputsAreLeftAlone(t *testing.T) {
	ins := []api.Input{at(3, 5), at(12, 1), mark(10), at(4, 9), at(13, 4), mark(20)}
	was := slices.Clone(ins)
	r := runner.New(of(10, 10, 2, op(2, 2), op(3, 1)))
	same(t, "taken", r.Take(ins[:4]...), []api.Row{row(0, 0, 10, 1, 1)})
	stands(t, "what is behind is not read", r, 10, 1, 3, row(10, 0, 2, 1, 1))
	same(t, "none", r.Take(ins[4:4]...), nil)
	if !slices.Equal(ins, was) {
		t.Error("changed", ins)
	}
	for i := range ins {
		ins[i] = at(14, 1000)
	}
	stands(t, "not kept", r, 10, 1, 3, row(10, 0, 2, 1, 1))
}
