package whole_test

import (
	"math"
	"slices"
	"testing"

	"cordon/api"
	"cordon/runner"
	"cordon/whole"
)

const (
	mostKey  = 255
	mostTime = 1 << 40
	mostSize = 1 << 20
	mostMark = mostTime + mostSize
	none     = -1
	allBits  = math.MaxUint64
)

func op(kind, n int) api.Op { return api.Op{Kind: kind, N: n} }

func of(size, slide, agg int, ops ...api.Op) api.Pipe {
	return api.Pipe{Ops: ops, Size: size, Slide: slide, Agg: agg, Sink: none, Feed: none}
}

func ev(time, key, value int, label uint64) api.Input {
	return api.Input{Event: api.Event{Time: time, Key: key, Value: value, Label: label}}
}

// at is an event whose key and label say little.
func at(time, value int) api.Input { return ev(time, 0, value, 1) }

// mark fills what doesn't count of a mark, its label above all, so that a test fails if it counted.
func mark(time int) api.Input {
	return api.Input{Mark: true, Event: api.Event{Time: time, Key: 9, Value: 99, Label: allBits}}
}

func row(start, key, value, count int, label uint64) api.Row {
	return api.Row{Start: start, Key: key, Value: value, Count: count, Label: label}
}

// runsPipe and runsInputs are those of the runner's runs.
func runsPipe() api.Pipe { return of(10, 10, api.ASum, op(api.OMul, 2)) }

func runsInputs() []api.Input { return []api.Input{at(3, 5), at(12, 1), mark(10), at(4, 9), mark(20)} }

func rightPipes() []api.Pipe {
	pipes := []api.Pipe{
		runsPipe(), of(10, 5, 1), of(1, 1, 3), of(8, 1, 4), of(10, 4, 2, op(3, 5)), of(7, 3, 2, op(4, 0), op(3, 3)), of(10, 5, 2, op(6, 2)),
		of(mostSize, mostSize, 2), of(mostSize, mostSize/8, 1), of(10, 5, 2, op(1, math.MinInt), op(2, math.MaxInt), op(3, mostKey+1), op(4, math.MinInt)),
	}
	for _, n := range []int{0, 3} {
		p := of(10, 5, 2, op(1, 1))
		p.Sink, p.Feed = n, 3-n
		pipes = append(pipes, p)
	}
	return pipes
}

// wrongPipes holds pipes each of which may not be for a reason of its own.
func wrongPipes() []api.Pipe {
	pipes := []api.Pipe{
		{}, {Ops: []api.Op{op(1, 1)}}, of(0, 0, 2), of(10, 0, 2), of(10, -5, 2), of(-10, -5, 2), of(4, 5, 2), of(9, 1, 2), of(mostSize+1, mostSize+1, 2),
		of(math.MaxInt, math.MaxInt, 2), of(10, 5, 0), of(10, 5, 5), of(10, 5, -1), of(10, 5, 2, op(0, 1)), of(10, 5, 2, op(7, 1)), of(10, 5, 2, op(3, 0)),
		of(10, 5, 2, op(3, mostKey+2)), of(10, 5, 2, op(6, -1)), of(10, 5, 2, op(6, mostKey+1)), of(10, 5, 2, slices.Repeat([]api.Op{op(1, 1)}, 7)...),
	}
	for _, n := range []int{-2, 4, math.MinInt, math.MaxInt} {
		p, q := of(10, 5, 2), of(10, 5, 2)
		p.Sink, q.Feed = n, n
		pipes = append(pipes, p, q)
	}
	return pipes
}

// wild holds inputs with numbers at all ends, many of which no runner takes.
func wild() []api.Input {
	var ins []api.Input
	for _, n := range []int{0, 1, -1, mostTime, mostTime + 1, mostMark, mostMark + 1, math.MaxInt, math.MinInt} {
		ins = append(ins, ev(n, n, n, uint64(n)), ev(5, n, n, allBits), ev(n, 0, 0, 0), mark(n))
	}
	return ins
}

// scattered tells n inputs about a mark that goes on by and by: ordinary ones, late ones, and such as no runner takes.
func scattered(size, n int, seed uint64) []api.Input {
	next := func(n int) int {
		seed = seed*6364136223846793005 + 1442695040888963407
		return int(seed >> 33 % uint64(n))
	}
	var ins []api.Input
	far := 0
	for range n {
		switch next(10) {
		case 0, 1:
			far += next(size + 2)
			ins = append(ins, mark(far))
		case 2:
			ins = append(ins, mark(far-next(size+2)), ev(-1-next(9), 1, 1, 1<<60), mark(mostMark+1))
		default:
			ins = append(ins, ev(far+next(3*size)-size/2, next(5), next(41)-20, 1<<next(60)))
		}
	}
	return ins
}

// many tells a list of scattered inputs of each right pipe, and what they are of.
func many(f func(p api.Pipe, ins []api.Input)) {
	for i, p := range rightPipes() {
		for seed := range 3 {
			f(p, scattered(p.Size, 80, uint64(100*i+seed)))
		}
	}
}

func same(t *testing.T, what string, got, want []api.Row) {
	t.Helper()
	if !slices.Equal(got, want) {
		t.Errorf("%s: %v; want %v", what, got, want)
	}
}

// stands asks for both, the rows and whether nothing is open.
func stands(t *testing.T, what string, p api.Pipe, ins []api.Input, past bool, rows ...api.Row) {
	t.Helper()
	same(t, what, whole.Rows(p, ins...), rows)
	if whole.Past(p, ins...) != past {
		t.Errorf("%s: Past is %v", what, !past)
	}
}

// beginning is what Prefix is to tell, row by row.
func beginning(a, b []api.Row) bool {
	for i, r := range a {
		if i >= len(b) || r != b[i] {
			return false
		}
	}
	return true
}

func TestRuns(t *testing.T) {
	ins := runsInputs()
	first, second := row(0, 0, 10, 1, 1), row(10, 0, 2, 1, 1)
	stands(t, "all", runsPipe(), ins, true, first, second)
	stands(t, "without the last mark", runsPipe(), ins[:4], false, first)
}

// P11.1

func TestWrongPipes(t *testing.T) {
	for _, p := range wrongPipes() {
		for _, ins := range [][]api.Input{nil, {}, {at(3, 5)}, {mark(10)}, runsInputs(), runsInputs()[:4], wild()} {
			stands(t, "wrong pipe", p, ins, true)
			if whole.Rows(p, ins...) != nil {
				t.Error("not nil", p)
			}
		}
	}
}

func TestNoInputs(t *testing.T) {
	for _, p := range rightPipes() {
		stands(t, "nil", p, nil, true)
		stands(t, "empty", p, []api.Input{}, true)
		if whole.Rows(p) != nil || !whole.Past(p) {
			t.Error("none", p)
		}
	}
}

func TestOneInput(t *testing.T) {
	p := of(10, 5, 2)
	for _, time := range []int{0, 4, 5, 10, mostTime} {
		stands(t, "one event", p, []api.Input{at(time, 3)}, false)
	}
	for _, time := range []int{-1, mostTime + 1, math.MinInt, math.MaxInt} {
		stands(t, "one event that may not be", p, []api.Input{at(time, 3)}, true)
	}
	for _, time := range []int{0, 1, 10, -1, mostMark, mostMark + 1, math.MinInt, math.MaxInt} {
		stands(t, "one mark", p, []api.Input{mark(time)}, true)
	}
	stands(t, "one that the operations don't let pass", of(10, 5, 2, op(4, 3)), []api.Input{at(3, 3)}, true)
	stands(t, "one that they do", of(10, 5, 2, op(4, 2)), []api.Input{at(3, 3)}, false)
}

func TestMarksAlone(t *testing.T) {
	for _, p := range rightPipes() {
		stands(t, "marks", p, []api.Input{mark(5), mark(30), mark(20), mark(-1), mark(mostMark), mark(mostMark + 1)}, true)
	}
}

func TestEventsAlone(t *testing.T) {
	for _, p := range []api.Pipe{of(10, 10, 1), of(10, 5, 2), of(1, 1, 3), of(8, 1, 4), of(mostSize, mostSize, 2)} {
		stands(t, "events", p, []api.Input{at(mostTime, 1), at(0, 2), ev(23, 1, 2, 4), at(3, 5), at(3, 5)}, false)
		stands(t, "events that may not be", p, []api.Input{at(-1, 1), at(mostTime+1, 2)}, true)
	}
}

func TestBothBetween(t *testing.T) {
	ins := []api.Input{mark(2), ev(7, 1, 3, 1), at(1, 1), ev(12, 1, 4, 2), mark(8), ev(7, 1, 100, 4), ev(8, 0, 1, 8), mark(10), mark(10), ev(31, 1, 9, 1), mark(15), mark(20), ev(17, 1, 1, 1)}
	stands(t, "sums", of(10, 5, 2), ins, false, row(0, 0, 1, 1, 8), row(0, 1, 3, 1, 1), row(5, 0, 1, 1, 8), row(5, 1, 7, 2, 3), row(10, 1, 4, 1, 2))
	stands(t, "the one behind closed", of(10, 5, 2), append(ins, mark(40)), true, row(0, 0, 1, 1, 8), row(0, 1, 3, 1, 1), row(5, 0, 1, 1, 8), row(5, 1, 7, 2, 3), row(10, 1, 4, 1, 2), row(25, 1, 9, 1, 1), row(30, 1, 9, 1, 1))
	stands(t, "counts of one key", of(10, 10, 1, op(3, 1)), append(ins, mark(40)), true, row(0, 0, 2, 2, 9), row(10, 0, 1, 1, 2), row(30, 0, 1, 1, 1))
	stands(t, "leasts of what is above", of(10, 10, 3, op(4, 3), op(1, 1)), append(ins, mark(40)), true, row(10, 1, 5, 1, 2), row(30, 1, 10, 1, 1))
}

// TestAsARunner: they are what a new runner makes, at once or one by one.
func TestAsARunner(t *testing.T) {
	told, open := 0, 0
	many(func(p api.Pipe, ins []api.Input) {
		r := runner.New(p)
		var rows []api.Row
		for k, in := range ins {
			rows = append(rows, r.Take(in)...)
			stands(t, "as a runner", p, ins[:k+1], r.Len() == 0, rows...)
			open += min(r.Len(), 1)
		}
		told += len(rows)
	})
	if told < 500 || open < 500 {
		t.Error("told", told, "open", open)
	}
}

// TestAgain: no call leaves anything to the next one.
func TestAgain(t *testing.T) {
	many(func(p api.Pipe, ins []api.Input) {
		rows, past := whole.Rows(p, ins...), whole.Past(p, ins...)
		for range 3 {
			stands(t, "again", p, ins, past, rows...)
		}
		stands(t, "others between", runsPipe(), runsInputs(), true, row(0, 0, 10, 1, 1), row(10, 0, 2, 1, 1))
		stands(t, "again behind others", p, ins, past, rows...)
	})
}

func TestPast(t *testing.T) {
	p := of(10, 5, 2)
	for i, q := range []struct {
		p    api.Pipe
		past bool
		ins  []api.Input
	}{
		{p, true, []api.Input{at(7, 1), mark(15)}},
		{p, false, []api.Input{at(7, 1), mark(14)}},
		{p, false, []api.Input{at(7, 1), mark(10)}},
		{p, true, []api.Input{at(7, 1), mark(10), mark(15)}},
		{p, false, []api.Input{at(7, 1), mark(15), at(15, 1)}},
		{p, true, []api.Input{at(7, 1), mark(15), at(14, 1)}},
		{p, false, []api.Input{ev(7, 1, 1, 1), ev(17, 2, 1, 1), mark(15)}},
		{p, true, []api.Input{ev(7, 1, 1, 1), ev(17, 2, 1, 1), mark(25)}},
		{p, false, []api.Input{at(7, 1), mark(mostMark + 1)}},
		{p, true, []api.Input{at(7, 1), mark(mostMark)}},
		{p, false, []api.Input{mark(12), at(13, 1), mark(11), mark(12)}},
		{p, true, []api.Input{mark(12), at(11, 1)}},
		{of(10, 5, 2, op(6, 1)), true, []api.Input{at(7, 1)}},
		{of(10, 5, 2, op(6, 0)), false, []api.Input{at(7, 1)}},
		{of(mostSize, mostSize, 2), false, []api.Input{at(mostTime, 1), mark(mostMark - 1)}},
		{of(mostSize, mostSize, 2), true, []api.Input{at(mostTime, 1), mark(mostMark)}},
	} {
		if whole.Past(q.p, q.ins...) != q.past {
			t.Error(i, q.ins)
		}
	}
}

// P11.2

func TestPrefix(t *testing.T) {
	a, b, c := row(0, 1, 2, 3, 4), row(10, 1, 2, 3, 4), row(10, 2, 2, 3, 4)
	for i, q := range []struct {
		a, b []api.Row
		ok   bool
	}{
		{nil, nil, true},
		{nil, []api.Row{}, true},
		{[]api.Row{}, nil, true},
		{nil, []api.Row{a, b}, true},
		{[]api.Row{}, []api.Row{a}, true},
		{[]api.Row{a}, nil, false},
		{[]api.Row{{}}, nil, false},
		{[]api.Row{{}}, []api.Row{{}}, true},
		{[]api.Row{a}, []api.Row{a, b, c}, true},
		{[]api.Row{a, b}, []api.Row{a, b, c}, true},
		{[]api.Row{a, b, c}, []api.Row{a, b, c}, true},
		{[]api.Row{a, b, c}, []api.Row{a, b}, false},
		{[]api.Row{a, b, {}}, []api.Row{a, b}, false},
		{[]api.Row{a, a}, []api.Row{a}, false},
		{[]api.Row{b}, []api.Row{a, b}, false},
		{[]api.Row{b, c}, []api.Row{a, b, c}, false},
		{[]api.Row{a, c}, []api.Row{a, b, c}, false},
		{[]api.Row{b, a}, []api.Row{a, b}, false},
		{[]api.Row{c, b, a}, []api.Row{a, b, c}, false},
	} {
		if whole.Prefix(q.a, q.b) != q.ok {
			t.Error(i, q.a, q.b)
		}
	}
}

// differing tells rows that are r but for one field, by much and by little.
func differing(r api.Row) []api.Row {
	var rows []api.Row
	for _, by := range []int{1, -1, 1 << 32, math.MinInt} {
		starts, keys, values, counts, labels := r, r, r, r, r
		starts.Start += by
		keys.Key += by
		values.Value += by
		counts.Count += by
		labels.Label += uint64(by)
		rows = append(rows, starts, keys, values, counts, labels)
	}
	return rows
}

// TestPrefixOfOneField: one field of one row is enough, wherever the row stands, in a or in b.
func TestPrefixOfOneField(t *testing.T) {
	b := []api.Row{row(0, 1, 2, 3, 4), row(0, 2, -5, 1, 1<<63), {}, row(10, 1, 2, 3, 4), row(mostTime, mostKey, math.MaxInt, 1, allBits)}
	for i := range b {
		for _, r := range differing(b[i]) {
			a := slices.Clone(b)
			a[i] = r
			for n := range len(b) + 1 {
				if whole.Prefix(a[:n], b) != (n <= i) || whole.Prefix(b[:n], a) != (n <= i) {
					t.Error(i, n, r)
				}
			}
		}
	}
}

// TestPrefixReadsNoRoom: what stands behind a list's length is none of it.
func TestPrefixReadsNoRoom(t *testing.T) {
	rows := []api.Row{row(0, 1, 2, 3, 4), row(10, 1, 2, 3, 4), row(20, 1, 2, 3, 4)}
	others := []api.Row{rows[0], rows[2], rows[1]}
	if whole.Prefix(rows, rows[:2]) || whole.Prefix(rows[:1], rows[:0]) || whole.Prefix(others, rows[:1]) {
		t.Error("the room behind b")
	}
	if !whole.Prefix(others[:1], rows) || !whole.Prefix(others[:0], rows[:0]) || !whole.Prefix(others[:1], rows[:1]) {
		t.Error("the room behind a")
	}
}

func TestLabels(t *testing.T) {
	for i, q := range []struct {
		want uint64
		ins  []api.Input
	}{
		{0, nil},
		{0, []api.Input{}},
		{0, []api.Input{mark(5)}},
		{0, []api.Input{mark(5), mark(0), mark(-1), mark(mostMark + 1)}},
		{0, []api.Input{ev(1, 1, 1, 0)}},
		{6, []api.Input{ev(1, 1, 1, 6)}},
		{7, []api.Input{ev(1, 1, 1, 6), ev(2, 1, 1, 3)}},
		{7, []api.Input{ev(2, 1, 1, 3), ev(1, 1, 1, 6), ev(2, 1, 1, 3)}},
		{1 << 63, []api.Input{ev(1, 1, 1, 0), ev(1, 1, 1, 1<<63), ev(1, 1, 1, 0)}},
		{1<<63 | 1, []api.Input{ev(1, 1, 1, 1<<63), ev(1, 1, 1, 1)}},
		{allBits, []api.Input{ev(1, 1, 1, 1), ev(1, 1, 1, allBits), ev(1, 1, 1, 2)}},
		{5, []api.Input{mark(5), ev(1, 1, 1, 4), mark(6), mark(7), ev(9, 1, 1, 1), mark(8)}},
		// Late ones and such as may not be are no marks, either.
		{11, []api.Input{ev(1, 1, 1, 1), mark(10), ev(1, 1, 1, 2), ev(-5, 1, 1, 8), mark(20)}},
		{48, []api.Input{ev(mostTime+1, 1, 1, 16), ev(1, -1, 1, 32), mark(math.MaxInt)}},
	} {
		if got := whole.Labels(q.ins...); got != q.want {
			t.Error(i, got, q.want)
		}
	}
}

// TestLabelsOfEachBit: each input counts, wherever it stands, and each of its bits.
func TestLabelsOfEachBit(t *testing.T) {
	var ins []api.Input
	var all uint64
	for n := range 64 {
		bit := uint64(1) << (n * 37 % 64)
		ins = append(ins, mark(n), ev(n, 0, 0, bit), ev(n, 0, 0, all))
		all |= bit
		if got := whole.Labels(ins...); got != all {
			t.Error(n, got, all)
		}
		if got := whole.Labels(append(ins[:len(ins):len(ins)], mark(n))...); got != all {
			t.Error(n, "a mark behind", got, all)
		}
	}
}

// P11.3

// TestCutAnywhere: the rows of a beginning of inputs are a beginning of the rows.
func TestCutAnywhere(t *testing.T) {
	longer := 0
	many(func(p api.Pipe, ins []api.Input) {
		all := whole.Rows(p, ins...)
		var before []api.Row
		for k := range len(ins) + 1 {
			rows := whole.Rows(p, ins[:k]...)
			if !whole.Prefix(rows, all) || !beginning(rows, all) || !whole.Prefix(before, rows) || !beginning(before, rows) {
				t.Error(k, rows, all)
			}
			if len(rows) < len(all) && !whole.Prefix(all, rows) {
				longer++
			}
			before = rows
		}
		same(t, "cut behind all", before, all)
	})
	if longer < 500 {
		t.Error("longer", longer)
	}
}

// TestCutRuns: how many rows there are at each cut of the runs, so that none comes ahead of its mark.
func TestCutRuns(t *testing.T) {
	ins := runsInputs()
	all := whole.Rows(runsPipe(), ins...)
	for k, n := range []int{0, 0, 0, 1, 1, 2} {
		same(t, "cut", whole.Rows(runsPipe(), ins[:k]...), all[:n])
	}
}

func TestLabelsBelow(t *testing.T) {
	many(func(p api.Pipe, ins []api.Input) {
		for k := range len(ins) + 1 {
			all := whole.Labels(ins[:k]...)
			for _, r := range whole.Rows(p, ins[:k]...) {
				if r.Label == 0 || r.Label&^all != 0 {
					t.Error(k, r, all)
				}
			}
		}
	})
}

// TestLabelsMeetTheRows: if every event gets into a window that is closed, all rows' labels together are no less than Labels.
func TestLabelsMeetTheRows(t *testing.T) {
	ins := []api.Input{ev(7, 1, 3, 1), ev(12, 1, 4, 2), ev(31, 5, 9, 1<<63), mark(20), ev(21, 0, 0, 64), mark(50)}
	var all uint64
	for _, r := range whole.Rows(of(10, 5, 2), ins...) {
		all |= r.Label
	}
	if want := uint64(1<<63 | 67); all != want || whole.Labels(ins...) != want {
		t.Error(all, whole.Labels(ins...))
	}
}

// R1, R2 and R5

func TestWildNumbersEnd(t *testing.T) {
	ins := wild()
	for _, p := range rightPipes() {
		for i := range ins {
			rows := whole.Rows(p, ins[i:]...)
			if !whole.Prefix(whole.Rows(p, ins[i:len(ins)-1]...), rows) {
				t.Error(i, rows)
			}
			whole.Past(p, ins[i:]...)
		}
	}
}

// TestHandedInStays: neither inputs nor operations nor rows are changed, nor the room behind them.
func TestHandedInStays(t *testing.T) {
	ops := []api.Op{op(2, 2), op(3, 4), op(5, math.MinInt), op(5, math.MinInt)}
	ins := append(runsInputs(), mark(30), at(33, 1))
	rows := []api.Row{row(0, 1, 2, 3, 4), row(10, 1, 2, 3, 4), row(20, 1, 2, 3, 4)}
	wasOps, wasIns, wasRows := slices.Clone(ops), slices.Clone(ins), slices.Clone(rows)
	p := of(10, 10, 2, ops[:2]...)
	wasPipe := p
	for n := range len(ins) + 1 {
		whole.Rows(p, ins[:n]...)
		whole.Past(p, ins[:n]...)
		whole.Labels(ins[:n]...)
	}
	for n := range len(rows) + 1 {
		whole.Prefix(rows[:n], rows[:2])
		whole.Prefix(rows[:2], rows[:n])
	}
	if !slices.Equal(ops, wasOps) || !slices.Equal(ins, wasIns) || !slices.Equal(rows, wasRows) {
		t.Error("changed", ops, ins, rows)
	}
	if p.Size != wasPipe.Size || p.Slide != wasPipe.Slide || p.Agg != wasPipe.Agg || p.Sink != wasPipe.Sink || p.Feed != wasPipe.Feed || len(p.Ops) != 2 {
		t.Error("changed", p)
	}
}

// TestHandedInIsNotKept: what the caller does to it later turns nothing, and what is behind its length isn't read.
func TestHandedInIsNotKept(t *testing.T) {
	ops, ins := []api.Op{op(2, 2), op(5, math.MinInt)}, append(runsInputs(), mark(30))
	p := of(10, 10, 2, ops[:1]...)
	rows := whole.Rows(p, ins[:5]...)
	want := slices.Clone(rows)
	ops[0] = op(2, 100)
	for i := range ins {
		ins[i] = at(14, 1000)
	}
	same(t, "an answer of before", rows, want)
	stands(t, "turned by the caller", p, append(ins[:1], mark(20)), true, row(10, 0, 100000, 1, 1))
}

// TestRowsAreNew: spoiling an answer and the room behind it spoils no other one.
func TestRowsAreNew(t *testing.T) {
	many(func(p api.Pipe, ins []api.Input) {
		rows := whole.Rows(p, ins...)
		other, half := whole.Rows(p, ins...), whole.Rows(p, ins[:len(ins)/2]...)
		want, wantHalf, was := slices.Clone(other), slices.Clone(half), slices.Clone(ins)
		all := rows[:cap(rows)]
		for i := range all {
			all[i] = row(-5, -5, -5, -5, 5)
		}
		same(t, "another answer", other, want)
		same(t, "of the half", half, wantHalf)
		same(t, "asked again", whole.Rows(p, ins...), want)
		if !slices.Equal(ins, was) {
			t.Error("inputs", ins)
		}
	})
}
