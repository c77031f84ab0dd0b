package cell_test

import (
	"math"
	"slices"
	"testing"

	"cordon/api"
	"cordon/cell"
	"cordon/whole"
)

const (
	tenants  = 8
	mostOps  = 6
	mostKey  = 255
	mostTime = 1 << 40
	mostSize = 1 << 20
	mostMark = mostTime + mostSize
	mostPoll = 32
	none     = -1
	allBits  = math.MaxUint64
)

// noTimes holds times that no event may have.
var noTimes = []int{-1, -2, -10, math.MinInt32, -mostTime, math.MinInt, mostTime + 1, mostTime + 2, mostMark, mostMark + 1, 1 << 41, 1 << 62, math.MaxInt}

// noKeys holds keys that no event may have.
var noKeys = []int{-1, -2, -255, math.MinInt32, math.MinInt, mostKey + 1, mostKey + 2, 1 << 32, 1<<32 + 1, math.MaxInt}

// noMarks holds times that no mark may have.
var noMarks = []int{0, -1, -2, -10, math.MinInt32, -mostMark, math.MinInt, mostMark + 1, mostMark + 2, 1 << 41, 1 << 62, math.MaxInt}

// noTenants holds numbers that no tenant has.
var noTenants = []int{-1, -2, -8, -64, math.MinInt32, -1 << 32, math.MinInt, math.MinInt + 1, 8, 9, 15, 16, 63, 64, 255, 256, 1 << 32, 1<<32 + 1, math.MaxInt - 1, math.MaxInt}

// labels holds sets of all kinds: of none, of one tenant or several, of such as there are none, of all bits.
var labels = []uint64{0, 1, 2, 3, 4, 8, 16, 32, 64, 128, 129, 255, 256, 1 << 32, 1 << 63, 1<<63 | 1, allBits, allBits - 1}

func op(kind, n int) api.Op { return api.Op{Kind: kind, N: n} }

func of(size, slide, agg int, ops ...api.Op) api.Pipe {
	return api.Pipe{Ops: ops, Size: size, Slide: slide, Agg: agg, Sink: none, Feed: none}
}

func event(time, key, value int, label uint64) api.Event {
	return api.Event{Time: time, Key: key, Value: value, Label: label}
}

func in(time, key, value int, label uint64) api.Input {
	return api.Input{Event: event(time, key, value, label)}
}

// at is an event of a time whose key, value and label say little.
func at(time, value int) api.Input { return in(time, 0, value, 1) }

// mark fills what doesn't count of a mark, so that a test fails if it counted.
func mark(time int) api.Input {
	return api.Input{Mark: true, Event: event(time, 9, 99, 999)}
}

// plain is a mark with nothing but its time.
func plain(time int) api.Input { return api.Input{Mark: true, Event: api.Event{Time: time}} }

func row(start, key, value, count int, label uint64) api.Row {
	return api.Row{Start: start, Key: key, Value: value, Count: count, Label: label}
}

// single makes a pipe each of whose events has a row of its own.
func single() api.Pipe { return of(1, 1, 2) }

// nth tells an event that no other n has.
func nth(n int) api.Input { return in(n, n%200, 3*n+1, 1) }

// nthOf tells it as tenant id sends it.
func nthOf(id, n int) api.Input { return in(n, n%200, 3*n+1, 1<<id) }

// sent tells those from number from on, ahead of number to, as tenant id sends them.
func sent(id, from, to int) []api.Input {
	var ins []api.Input
	for n := from; n < to; n++ {
		ins = append(ins, nthOf(id, n))
	}
	return ins
}

// rowsOf tells the rows that single makes of them.
func rowsOf(id, from, to int) []api.Row {
	var rows []api.Row
	for n := from; n < to; n++ {
		rows = append(rows, row(n, n%200, 3*n+1, 1, 1<<id))
	}
	return rows
}

func samePipe(p, q api.Pipe) bool {
	return p.Size == q.Size && p.Slide == q.Slide && p.Agg == q.Agg && p.Sink == q.Sink && p.Feed == q.Feed && slices.Equal(p.Ops, q.Ops)
}

func rightPipes() []api.Pipe {
	pipes := []api.Pipe{
		of(10, 10, 2, op(2, 2)), of(10, 5, 1), single(), of(8, 1, 4), of(10, 4, 2, op(3, 5)), of(mostSize, mostSize, 2), of(mostSize, mostSize/8, 1),
		of(10, 5, 2, op(1, math.MinInt), op(2, math.MaxInt), op(3, mostKey+1), op(4, math.MinInt), op(5, math.MaxInt), op(6, mostKey)),
		of(10, 5, 3, op(3, 1), op(6, 0)), of(7, 3, 2, op(4, 0), op(3, 3)),
	}
	for _, n := range []int{0, 3} {
		p := of(10, 5, 2, op(1, 1))
		p.Sink, p.Feed = n, 3-n
		pipes = append(pipes, p)
	}
	return pipes
}

// wrongPipes holds pipes each of which may not be for a reason of its own.
func wrongPipes() []api.Pipe {
	pipes := []api.Pipe{
		{}, {Ops: []api.Op{op(1, 1)}, Sink: none, Feed: none}, of(0, 0, 2), of(10, 0, 2), of(10, -5, 2), of(-10, -5, 2), of(4, 5, 2), of(9, 1, 2),
		of(mostSize+1, mostSize+1, 2), of(mostSize, mostSize/8-1, 2), of(math.MaxInt, math.MaxInt, 2), of(10, 5, 0), of(10, 5, 5), of(10, 5, -1), of(10, 5, 1<<32+2),
		of(10, 5, 2, slices.Repeat([]api.Op{op(1, 1)}, mostOps+1)...),
	}
	for _, o := range []api.Op{{}, op(-1, 1), op(7, 1), op(3, 0), op(3, -1), op(3, mostKey+2), op(6, -1), op(6, mostKey+1)} {
		pipes = append(pipes, of(10, 5, 2, o), of(10, 5, 2, op(1, 1), o))
	}
	for _, n := range []int{-2, 4, 1 << 32, math.MinInt, math.MaxInt} {
		p, q := of(10, 5, 2), of(10, 5, 2)
		p.Sink, q.Feed = n, n
		pipes = append(pipes, p, q)
	}
	return pipes
}

// wrongInputs holds events and marks each of which may not be for one reason.
func wrongInputs() []api.Input {
	var ins []api.Input
	for _, time := range noTimes {
		ins = append(ins, in(time, 0, 1, 1))
	}
	for _, key := range noKeys {
		ins = append(ins, in(3, key, 1, 1))
	}
	for _, time := range noMarks {
		ins = append(ins, mark(time), plain(time))
	}
	return ins
}

// state is all that a cell tells.
type state struct {
	left, spent, refused int
	waiting, taken       []api.Input
	rows                 []api.Row
	mark, late, seen     int
	open                 []api.Row
}

func (s state) same(o state) bool {
	return s.left == o.left && s.spent == o.spent && s.refused == o.refused && s.mark == o.mark && s.late == o.late && s.seen == o.seen &&
		slices.Equal(s.waiting, o.waiting) && slices.Equal(s.taken, o.taken) && slices.Equal(s.rows, o.rows) && slices.Equal(s.open, o.open)
}

// polled asks for all rows, as many a call as there may be.
func polled(t *testing.T, c *cell.Cell) []api.Row {
	t.Helper()
	var all []api.Row
	for {
		rows, e := c.Rows(len(all), mostPoll)
		if e != api.OK || len(rows) > mostPoll {
			t.Fatalf("Rows(%d, %d): %d rows, %d", len(all), mostPoll, len(rows), e)
		}
		if len(rows) == 0 {
			return all
		}
		all = append(all, rows...)
	}
}

// look asks for all that c tells, and that what counts tell of lists is right.
func look(t *testing.T, c *cell.Cell) state {
	t.Helper()
	s := state{
		left: c.Left(), spent: c.Spent(), refused: c.Refused(),
		waiting: c.All(), taken: c.Taken(), rows: polled(t, c),
		mark: c.Run.Mark(), late: c.Run.Late(), seen: c.Run.Seen(), open: c.Run.Open(),
	}
	if c.Waiting() != len(s.waiting) || c.Count() != len(s.rows) {
		t.Errorf("Waiting %d of %d, Count %d of %d", c.Waiting(), len(s.waiting), c.Count(), len(s.rows))
	}
	return s
}

func stands(t *testing.T, what any, c *cell.Cell, want state) {
	t.Helper()
	if got := look(t, c); !got.same(want) {
		t.Errorf("%v: %v; want %v", what, got, want)
	}
}

// holds asks for the counts, and for what waits.
func holds(t *testing.T, what any, c *cell.Cell, left, spent, refused int, waiting ...api.Input) {
	t.Helper()
	if c.Left() != left || c.Spent() != spent || c.Refused() != refused {
		t.Errorf("%v: left %d, spent %d, refused %d; want %d, %d, %d", what, c.Left(), c.Spent(), c.Refused(), left, spent, refused)
	}
	sameInputs(t, what, c.All(), waiting)
	if c.Waiting() != len(waiting) {
		t.Errorf("%v: Waiting %d; want %d", what, c.Waiting(), len(waiting))
	}
}

// told asks for the rows, and for what was taken.
func told(t *testing.T, what any, c *cell.Cell, rows []api.Row, taken ...api.Input) {
	t.Helper()
	sameRows(t, what, polled(t, c), rows)
	if c.Count() != len(rows) {
		t.Errorf("%v: Count %d; want %d", what, c.Count(), len(rows))
	}
	sameInputs(t, what, c.Taken(), taken)
}

func sameInputs(t *testing.T, what any, got, want []api.Input) {
	t.Helper()
	if !slices.Equal(got, want) {
		t.Errorf("%v: %v; want %v", what, got, want)
	}
}

func sameRows(t *testing.T, what any, got, want []api.Row) {
	t.Helper()
	if !slices.Equal(got, want) {
		t.Errorf("%v: %v; want %v", what, got, want)
	}
}

// offers lays in, and asks that this was right.
func offers(t *testing.T, c *cell.Cell, ins ...api.Input) {
	t.Helper()
	for _, in := range ins {
		if e := c.Offer(math.MaxInt, in); e != api.OK {
			t.Fatalf("%v: %d", in, e)
		}
	}
}

// refuses asks for the refusal, that it is counted once, and that nothing else changes.
func refuses(t *testing.T, what any, c *cell.Cell, room int, in api.Input, why api.Errno) {
	t.Helper()
	want := look(t, c)
	want.refused++
	if e := c.Offer(room, in); e != why {
		t.Errorf("%v: %d; want %d", what, e, why)
	}
	stands(t, what, c, want)
}

// took makes a cell of tenant id that has had so many inputs of single, and a mark that closed all of them.
func took(t *testing.T, id, n int) *cell.Cell {
	t.Helper()
	c := cell.New(id, math.MaxInt, single())
	for i := range n {
		offers(t, c, nth(i))
	}
	if n > 0 {
		offers(t, c, mark(n))
	}
	sameRows(t, "took", c.Serve(n+1), rowsOf(id, 0, n))
	return c
}

func spoilRows(rows []api.Row) {
	rows = rows[:cap(rows)]
	for i := range rows {
		rows[i] = row(-99, -99, -99, -99, 99)
	}
}

func spoilInputs(ins []api.Input) {
	ins = ins[:cap(ins)]
	for i := range ins {
		ins[i] = in(-99, -99, -99, 99)
	}
}

func TestRuns(t *testing.T) {
	c := cell.New(0, 9, of(10, 10, 2))
	if e := c.Offer(2, at(3, 5)); e != api.OK {
		t.Error("event", e)
	}
	if e := c.Offer(2, mark(10)); e != api.OK {
		t.Error("mark", e)
	}
	if e := c.Offer(2, at(4, 1)); e != api.ErrFull {
		t.Error("a third one", e)
	}
	want := []api.Row{row(0, 0, 5, 1, 1)}
	sameRows(t, "Serve(2)", c.Serve(2), want)
	got, e := c.Rows(0, 5)
	sameRows(t, "Rows(0, 5)", got, want)
	if e != api.OK {
		t.Error("Rows(0, 5)", e)
	}
	if got, e := c.Rows(2, 1); e != api.ErrRange || len(got) != 0 {
		t.Error("Rows(2, 1)", got, e)
	}
	holds(t, "behind the runs", c, 7, 2, 1)
	told(t, "behind the runs", c, want, in(3, 0, 5, 1), plain(10))
}

// P15.1: New

func TestNewOfEachTenant(t *testing.T) {
	for id := range tenants {
		c := cell.New(id, 3, of(10, 10, 2))
		if c == nil {
			t.Fatal(id)
		}
		if c.Id != id {
			t.Error(id, c.Id)
		}
		stands(t, id, c, state{left: 3})
		offers(t, c, at(3, 5), mark(10))
		sameRows(t, id, c.Serve(2), []api.Row{row(0, 0, 5, 1, 1<<id)})
	}
}

func TestNewOfNoTenant(t *testing.T) {
	for _, id := range noTenants {
		for _, most := range []int{3, 0, -1} {
			if cell.New(id, most, single()) != nil || cell.New(id, most, api.Pipe{}) != nil {
				t.Error(id, most)
			}
		}
	}
}

func TestNewOfWrongPipes(t *testing.T) {
	for i, p := range wrongPipes() {
		for id := range tenants {
			for _, most := range []int{3, 0, -1} {
				if cell.New(id, most, p) != nil {
					t.Error(i, id, most, p)
				}
			}
		}
	}
}

func TestNewOfRightPipes(t *testing.T) {
	for i, p := range rightPipes() {
		c := cell.New(5, 3, p)
		if c == nil {
			t.Error(i, p)
			continue
		}
		stands(t, i, c, state{left: 3})
		if c.Run == nil || !samePipe(c.Run.Pipe, p) {
			t.Error(i, c.Run)
		}
	}
}

// TestNewMost: nothing less than nothing is left, and as much as an int can be.
func TestNewMost(t *testing.T) {
	for _, q := range []struct{ most, left int }{
		{math.MinInt, 0}, {math.MinInt + 1, 0}, {math.MinInt32, 0}, {-1 << 32, 0}, {-2, 0}, {-1, 0}, {0, 0}, {1, 1}, {2, 2}, {16, 16},
		{3999, 3999}, {4000, 4000}, {4001, 4001}, {1 << 32, 1 << 32}, {math.MaxInt - 1, math.MaxInt - 1}, {math.MaxInt, math.MaxInt},
	} {
		c := cell.New(1, q.most, single())
		if c == nil {
			t.Fatal(q.most)
		}
		stands(t, q.most, c, state{left: q.left})
		if q.left == 0 {
			refuses(t, q.most, c, 5, at(3, 1), api.ErrQuota)
			continue
		}
		offers(t, c, at(3, 1))
		holds(t, q.most, c, q.left-1, 1, 0, in(3, 0, 1, 2))
	}
}

// TestNewKeepsACopy: what the caller does to its Ops later turns nothing, whether they had spare room or not.
func TestNewKeepsACopy(t *testing.T) {
	for _, room := range []int{0, 4} {
		p := of(10, 10, 2)
		p.Ops = append(make([]api.Op, 0, 2+room), op(2, 3), op(1, 1))
		c := cell.New(0, 9, p)
		p.Ops[0], p.Ops[1] = op(5, math.MinInt), op(7, 7)
		_ = append(p.Ops, op(5, math.MinInt))
		offers(t, c, at(3, 5), mark(10))
		sameRows(t, "turned by the caller", c.Serve(2), []api.Row{row(0, 0, 16, 1, 1)})
	}
}

// TestPipeHandedInStays: the cell's own Ops and the room behind them are none of the caller's.
func TestPipeHandedInStays(t *testing.T) {
	ops := []api.Op{op(2, 3), op(1, 1), op(6, 0), op(6, 0)}
	p := of(10, 10, 2, ops[:2]...)
	c := cell.New(0, 9, p)
	for _, own := range []*cell.Cell{c, c.Twin()} {
		offers(t, own, at(3, 5), mark(10))
		own.Serve(2)
		own.Run.Pipe.Ops[0] = op(5, 5)
		_ = append(own.Run.Pipe.Ops, op(5, 5))
		own.Run.Pipe.Size = 1
	}
	if !slices.Equal(ops, []api.Op{op(2, 3), op(1, 1), op(6, 0), op(6, 0)}) || p.Size != 10 {
		t.Error(ops, p)
	}
}

// TestNewOnesAreApart: cells of one pipe, of one tenant or of two, share nothing.
func TestNewOnesAreApart(t *testing.T) {
	p := of(10, 10, 2, op(2, 2))
	for _, id := range []int{0, 1} {
		c, other := cell.New(0, 9, p), cell.New(id, 9, p)
		offers(t, c, at(3, 5), mark(10), at(12, 1))
		c.Feed(event(13, 1, 1, 1))
		c.Serve(2)
		c.Offer(0, at(3, 5))
		stands(t, "the other", other, state{left: 9})
		other.Run.Pipe.Ops[0] = op(2, 100)
		offers(t, c, mark(20))
		sameRows(t, "this one", c.Serve(9), []api.Row{row(10, 0, 2, 1, 1), row(10, 1, 2, 1, 1)})
	}
}

// P15.1: Twin

// conditions make cells, of tenant 2, behind calls of all kinds.
func conditions() []func(t *testing.T) *cell.Cell {
	pipe := of(10, 5, 2, op(1, 1))
	begun := func(t *testing.T, served int) *cell.Cell {
		c := cell.New(2, 12, pipe)
		offers(t, c, in(17, 1, 3, 1), mark(5), in(2, 1, 1, 1), in(12, 0, 8, 8), mark(15), in(31, 4, 2, 1), mark(30))
		c.Feed(event(33, 3, 3, 7))
		c.Offer(2, at(1, 1))
		c.Serve(served)
		return c
	}
	return []func(t *testing.T) *cell.Cell{
		func(t *testing.T) *cell.Cell { return cell.New(2, 0, pipe) },
		func(t *testing.T) *cell.Cell { return cell.New(2, 12, pipe) },
		func(t *testing.T) *cell.Cell { return begun(t, 0) },
		func(t *testing.T) *cell.Cell { return begun(t, 1) },
		func(t *testing.T) *cell.Cell { return begun(t, 5) },
		func(t *testing.T) *cell.Cell { return begun(t, 8) },
		func(t *testing.T) *cell.Cell { return took(t, 2, 1) },
		func(t *testing.T) *cell.Cell { return took(t, 2, 5) },
		func(t *testing.T) *cell.Cell { return took(t, 2, 40) },
	}
}

// touches are all that can be done to a cell.
func touches() []func(c *cell.Cell) {
	return []func(c *cell.Cell){
		func(c *cell.Cell) { c.Offer(100, in(40, 6, 7, 1)) },
		func(c *cell.Cell) { c.Offer(100, mark(45)) },
		func(c *cell.Cell) { c.Offer(0, at(46, 1)) },
		func(c *cell.Cell) { c.Offer(100, at(-1, 1)) },
		func(c *cell.Cell) { c.Feed(event(47, 1, 1, 64)) },
		func(c *cell.Cell) { c.Serve(1) },
		func(c *cell.Cell) { c.Serve(100) },
		func(c *cell.Cell) { c.Offer(100, mark(mostMark)); c.Serve(100) },
		func(c *cell.Cell) { c.Push(100, at(1, 1)) },
		func(c *cell.Cell) { c.Pop(3) },
		func(c *cell.Cell) { c.Spend(1) },
		func(c *cell.Cell) { c.Refuse() },
		func(c *cell.Cell) { c.Run.Take(in(60, 6, 6, 6), mark(90)) },
		func(c *cell.Cell) { c.Run.Advance(100) },
		func(c *cell.Cell) { c.Run.Put(event(200, 1, 1, 1)) },
	}
}

// TestTwinIsTheSame in all conditions, and goes on alike.
func TestTwinIsTheSame(t *testing.T) {
	for i, made := range conditions() {
		c := made(t)
		x := c.Twin()
		if x == c || x.Run == c.Run || x.Id != 2 || !samePipe(x.Run.Pipe, c.Run.Pipe) {
			t.Error(i, x.Id, x.Run)
		}
		stands(t, i, x, look(t, c))
		for j, touch := range touches() {
			touch(c)
			touch(x)
			stands(t, []int{i, j}, x, look(t, c))
		}
	}
}

// TestTwinTouchesNone: making one changes nothing.
func TestTwinTouchesNone(t *testing.T) {
	for i, made := range conditions() {
		c := made(t)
		want := look(t, c)
		c.Twin()
		stands(t, i, c, want)
	}
}

// TestTwinsAreApart: of a cell and its twin neither sees what is done to the other, whichever is touched, call by call.
func TestTwinsAreApart(t *testing.T) {
	for i, made := range conditions() {
		for _, turned := range []bool{false, true} {
			touched := made(t)
			left := touched.Twin()
			if turned {
				touched, left = left, touched
			}
			want := look(t, left)
			for j, touch := range touches() {
				touch(touched)
				stands(t, []int{i, j}, left, want)
			}
		}
	}
}

// TestTwinsGoOnApart: each goes on in its own way, turn by turn; of lists of all lengths none has what the other laid behind.
func TestTwinsGoOnApart(t *testing.T) {
	for n := range 20 {
		c := took(t, 1, n)
		x := c.Twin()
		for i := range 6 {
			offers(t, c, nth(n+i), mark(n+i+1))
			x.Feed(event(n+i, 7, 7, 128))
			offers(t, x, mark(n+i+1))
			sameRows(t, n, c.Serve(2), rowsOf(1, n+i, n+i+1))
			sameRows(t, n, x.Serve(2), []api.Row{row(n+i, 7, 7, 1, 128)})
		}
		own, others, taken, othersTaken := rowsOf(1, 0, n), rowsOf(1, 0, n), sent(1, 0, n), sent(1, 0, n)
		if n > 0 {
			taken, othersTaken = append(taken, plain(n)), append(othersTaken, plain(n))
		}
		for i := range 6 {
			own, taken = append(own, rowsOf(1, n+i, n+i+1)...), append(taken, nthOf(1, n+i), plain(n+i+1))
			others, othersTaken = append(others, row(n+i, 7, 7, 1, 128)), append(othersTaken, in(n+i, 7, 7, 128), plain(n+i+1))
		}
		told(t, n, c, own, taken...)
		told(t, n, x, others, othersTaken...)
	}
}

// TestTwinsOpsAreApart: the pipe of one is not the pipe of the other.
func TestTwinsOpsAreApart(t *testing.T) {
	c := cell.New(0, 9, of(10, 10, 2, op(2, 2)))
	x := c.Twin()
	y := x.Twin()
	x.Run.Pipe.Ops[0].N = 50
	for _, q := range []struct {
		c     *cell.Cell
		value int
	}{{c, 6}, {x, 150}, {y, 6}} {
		offers(t, q.c, at(1, 3), mark(10))
		sameRows(t, "twins", q.c.Serve(2), []api.Row{row(0, 0, q.value, 1, 1)})
	}
}

// TestTwinOfATwin: three in a row, each of which goes on by itself, also when the one that it was made of is gone on.
func TestTwinOfATwin(t *testing.T) {
	c := took(t, 0, 2)
	x := c.Twin()
	offers(t, x, nth(5))
	y := x.Twin()
	offers(t, y, mark(6))
	x.Serve(1)
	sameRows(t, "third", y.Serve(2), rowsOf(0, 5, 6))
	offers(t, c, nth(3), mark(4))
	sameRows(t, "first", c.Serve(2), rowsOf(0, 3, 4))
	start := append(sent(0, 0, 2), plain(2))
	told(t, "first", c, append(rowsOf(0, 0, 2), rowsOf(0, 3, 4)...), append(start[:3:3], nthOf(0, 3), plain(4))...)
	told(t, "second", x, rowsOf(0, 0, 2), append(start[:3:3], nthOf(0, 5))...)
	told(t, "third", y, append(rowsOf(0, 0, 2), rowsOf(0, 5, 6)...), append(start[:3:3], nthOf(0, 5), plain(6))...)
}

// P15.2

// TestOfferWrong: each by itself, in each condition, with room and quota.
func TestOfferWrong(t *testing.T) {
	for i, made := range conditions() {
		c := made(t)
		for j, wrong := range wrongInputs() {
			refuses(t, []int{i, j}, c, 100, wrong, api.ErrForm)
		}
	}
}

// TestOfferWrongUnderAnyLabel: the label that it came with makes nothing right.
func TestOfferWrongUnderAnyLabel(t *testing.T) {
	for id := range tenants {
		c := cell.New(id, 9, single())
		for _, label := range labels {
			refuses(t, "time", c, 9, in(-1, 0, 0, label), api.ErrForm)
			refuses(t, "time", c, 9, in(mostTime+1, 0, 0, label), api.ErrForm)
			refuses(t, "key", c, 9, in(0, -1, 0, label), api.ErrForm)
			refuses(t, "key", c, 9, in(0, mostKey+1, 0, label), api.ErrForm)
		}
	}
}

// TestOfferAtTheBounds: an event at each bound, and the next ones within, wait as they came, but for the label.
func TestOfferAtTheBounds(t *testing.T) {
	var want []api.Input
	c := cell.New(6, 1000, single())
	for _, time := range []int{0, 1, 2, 9, mostSize, mostTime - 1, mostTime} {
		for _, key := range []int{0, 1, 7, mostKey - 1, mostKey} {
			for _, value := range []int{math.MinInt, -1, 0, 1, math.MaxInt} {
				offers(t, c, in(time, key, value, 1))
				want = append(want, in(time, key, value, 64))
				holds(t, "at the bounds", c, 1000-len(want), len(want), 0, want...)
			}
		}
	}
}

// TestOfferMarks: of a mark the Time alone counts, and the Time alone waits.
func TestOfferMarks(t *testing.T) {
	var want []api.Input
	c := cell.New(4, 1000, single())
	for _, time := range []int{1, 2, 10, mostTime, mostTime + 1, mostMark - 1, mostMark} {
		for _, rest := range []api.Event{{}, event(0, -1, 5, 0), event(0, mostKey+1, math.MinInt, 7), event(0, math.MinInt, 0, allBits), event(0, 3, 3, 1<<4)} {
			rest.Time = time
			offers(t, c, api.Input{Mark: true, Event: rest})
			want = append(want, plain(time))
			holds(t, time, c, 1000-len(want), len(want), 0, want...)
		}
	}
	// 0 is a time of events alone; those beyond the latest one are marks' alone.
	offers(t, c, at(0, 1))
	refuses(t, "mark of 0", c, 1000, mark(0), api.ErrForm)
	refuses(t, "a mark's time", c, 1000, at(mostMark, 1), api.ErrForm)
}

// TestOfferLabels: whatever label it came with, it waits, and comes out, under the tenant's own.
func TestOfferLabels(t *testing.T) {
	for id := range tenants {
		c := cell.New(id, 1000, single())
		for n, label := range labels {
			offers(t, c, in(n, 1, 1, label))
			sameInputs(t, label, c.All(), []api.Input{in(n, 1, 1, 1<<id)})
			offers(t, c, api.Input{Mark: true, Event: event(n+1, 1, 1, label)})
			sameRows(t, label, c.Serve(2), []api.Row{row(n, 1, 1, 1, 1<<id)})
		}
	}
}

// roomsAround tells rooms at all ends, and about so many.
func roomsAround(n int) []int {
	rooms := []int{math.MinInt, math.MinInt + 1, math.MinInt32, -2, -1, 0, 1, math.MaxInt32, 1 << 32, 1<<32 + 1, math.MaxInt - 1, math.MaxInt}
	for by := -4; by <= 4; by++ {
		rooms = append(rooms, n+by)
	}
	return rooms
}

// TestOfferRooms lays an event and a mark behind every small number that wait, offered or fed, with every room.
func TestOfferRooms(t *testing.T) {
	for wait := range 7 {
		for _, room := range roomsAround(wait) {
			for _, more := range []api.Input{nth(9), mark(9)} {
				for _, fed := range []int{0, wait / 2, wait} {
					c := cell.New(0, 99, single())
					offers(t, c, sent(0, 0, wait-fed)...)
					for n := wait - fed; n < wait; n++ {
						c.Feed(nth(n).Event)
					}
					if room <= wait {
						refuses(t, []int{wait, room}, c, room, more, api.ErrFull)
						continue
					}
					if e := c.Offer(room, more); e != api.OK {
						t.Error(wait, room, e)
					}
					last := nthOf(0, 9)
					if more.Mark {
						last = plain(9)
					}
					holds(t, []int{wait, room}, c, 98-wait+fed, wait-fed+1, 0, append(sent(0, 0, wait), last)...)
				}
			}
		}
	}
}

// TestOfferRoomIsOfEachCall: what an elder call was given plays no part; what was served makes room.
func TestOfferRoomIsOfEachCall(t *testing.T) {
	c := cell.New(0, 99, single())
	for i, step := range []struct {
		room, served int
		want         api.Errno
	}{
		{1, 0, api.OK}, {1, 0, api.ErrFull}, {5, 0, api.OK}, {2, 0, api.ErrFull}, {1, 0, api.ErrFull}, {3, 0, api.OK}, {3, 0, api.ErrFull},
		{3, 1, api.OK}, {3, 0, api.ErrFull}, {2, 1, api.ErrFull}, {2, 1, api.OK}, {1, 1, api.ErrFull}, {1, 1, api.OK}, {0, 9, api.ErrFull}, {1, 0, api.OK},
	} {
		c.Serve(step.served)
		if e := c.Offer(step.room, nth(i)); e != step.want {
			t.Errorf("step %d: %d; want %d", i, e, step.want)
		}
	}
}

// TestOfferQuota: just as many as it may, whatever they are and however many are served; then it is told each time.
func TestOfferQuota(t *testing.T) {
	for _, most := range []int{0, 1, 2, 5, 40} {
		for _, served := range []int{0, 1, 3} {
			c := cell.New(3, most, single())
			for n := range most {
				more := nth(n)
				if n%3 == 1 {
					more = mark(n)
				}
				offers(t, c, more)
				c.Serve(served)
				if c.Left() != most-n-1 || c.Spent() != n+1 || c.Refused() != 0 {
					t.Errorf("%d of %d: left %d, spent %d, refused %d", n, most, c.Left(), c.Spent(), c.Refused())
				}
			}
			for range 3 {
				refuses(t, most, c, math.MaxInt, nth(0), api.ErrQuota)
				refuses(t, most, c, math.MaxInt, mark(1), api.ErrQuota)
				c.Serve(served)
			}
			if c.Left() != 0 || c.Spent() != most || c.Refused() != 6 {
				t.Errorf("%d: left %d, spent %d, refused %d", most, c.Left(), c.Spent(), c.Refused())
			}
		}
	}
}

// TestOfferFirstRefusal: of all that apply the first, in the order of the chapter, is told.
func TestOfferFirstRefusal(t *testing.T) {
	for _, q := range []struct {
		wrong, spent, full bool
		want               api.Errno
	}{
		{false, false, true, api.ErrFull},
		{false, true, false, api.ErrQuota},
		{false, true, true, api.ErrQuota},
		{true, false, false, api.ErrForm},
		{true, false, true, api.ErrForm},
		{true, true, false, api.ErrForm},
		{true, true, true, api.ErrForm},
	} {
		ins := []api.Input{nth(3), in(0, 0, 0, 0), mark(1), mark(mostMark)}
		if q.wrong {
			ins = wrongInputs()
		}
		rooms := []int{3, 4, math.MaxInt}
		if q.full {
			rooms = []int{2, 1, 0, -1, math.MinInt}
		}
		most := 9
		if q.spent {
			most = 2
		}
		for id := range tenants {
			c := cell.New(id, most, single())
			offers(t, c, nth(0), mark(1))
			for _, room := range rooms {
				for _, in := range ins {
					refuses(t, q, c, room, in, q.want)
				}
			}
			if c.Refused() != len(rooms)*len(ins) {
				t.Error(q, c.Refused())
			}
		}
	}
}

// TestOfferWithNothingLeft and nothing waiting, too, tells of the quota, and not of a room of nothing.
func TestOfferWithNothingLeft(t *testing.T) {
	c := cell.New(0, 0, single())
	for _, room := range roomsAround(0) {
		refuses(t, room, c, room, nth(0), api.ErrQuota)
		refuses(t, room, c, room, in(-1, 0, 0, 1), api.ErrForm)
		refuses(t, room, c, room, mark(0), api.ErrForm)
	}
}

// TestOfferAfterRefusals: however many there were, what may wait still does.
func TestOfferAfterRefusals(t *testing.T) {
	c := cell.New(0, 2, single())
	for n := range 50 {
		refuses(t, n, c, 0, nth(n), api.ErrFull)
		refuses(t, n, c, 5, in(n, -1, 0, 1), api.ErrForm)
	}
	offers(t, c, nth(1), mark(2))
	refuses(t, "then", c, 5, nth(1), api.ErrQuota)
	holds(t, "then", c, 0, 2, 101, nth(1), plain(2))
}

// TestOfferTellsNothingOfTheClock: what is late, and marks that don't go on, may be sent like any other.
func TestOfferTellsNothingOfTheClock(t *testing.T) {
	c := cell.New(0, 9, single())
	offers(t, c, mark(20))
	c.Serve(1)
	offers(t, c, at(3, 1), mark(20), mark(1), at(25, 2), mark(26))
	holds(t, "behind the mark", c, 3, 6, 0, at(3, 1), plain(20), plain(1), at(25, 2), plain(26))
	sameRows(t, "behind the mark", c.Serve(9), []api.Row{row(25, 0, 2, 1, 1)})
	if c.Run.Late() != 1 || c.Run.Seen() != 2 || c.Run.Mark() != 26 {
		t.Error(c.Run.Late(), c.Run.Seen(), c.Run.Mark())
	}
}

// TestOfferGreatestMark closes the longest window at the latest time.
func TestOfferGreatestMark(t *testing.T) {
	c := cell.New(0, 9, of(mostSize, mostSize, 2))
	offers(t, c, at(mostTime, 5), mark(mostMark-1), mark(mostMark))
	sameRows(t, "one ahead", c.Serve(2), nil)
	sameRows(t, "the greatest", c.Serve(1), []api.Row{row(mostTime, 0, 5, 1, 1)})
}

// TestSpoiltId: Id is anyone's to write; whatever is written there, no call panics.
func TestSpoiltId(t *testing.T) {
	for _, id := range noTenants {
		c := cell.New(0, 9, single())
		c.Id = id
		c.Offer(5, nth(0))
		c.Offer(5, mark(1))
		c.Twin().Serve(9)
		c.Serve(9)
	}
}

// P15.3: Feed

// fedEvents holds such as may be, at all bounds, with labels of all kinds but none.
func fedEvents() []api.Event {
	var es []api.Event
	for _, label := range labels {
		if label != 0 {
			es = append(es, event(5, 5, 5, label))
		}
	}
	for _, time := range []int{0, 1, mostTime - 1, mostTime} {
		for _, key := range []int{0, 1, mostKey - 1, mostKey} {
			for _, value := range []int{math.MinInt, 0, math.MaxInt} {
				es = append(es, event(time, key, value, 6))
			}
		}
	}
	return es
}

// TestFeed: it waits as it is, whatever is left, however many wait; and counts as nothing of the tenant's.
func TestFeed(t *testing.T) {
	for _, most := range []int{0, 1, 9} {
		for id := range tenants {
			c := cell.New(id, most, single())
			var want []api.Input
			if most > 0 {
				offers(t, c, nth(3))
				want = append(want, nthOf(id, 3))
			}
			why := api.ErrQuota
			if most > 1 {
				why = api.ErrFull
			}
			refuses(t, "no room", c, 0, nth(0), why)
			for _, e := range fedEvents() {
				c.Feed(e)
				want = append(want, api.Input{Event: e})
				holds(t, e, c, max(most-1, 0), min(most, 1), 1, want...)
			}
			told(t, most, c, nil)
		}
	}
}

// TestFeedMany: far more than there ever is room for.
func TestFeedMany(t *testing.T) {
	const many = 20_000
	c := cell.New(0, 0, of(mostSize, mostSize, 1))
	for n := range many {
		c.Feed(event(n, n%256, n, 2))
	}
	if c.Waiting() != many || len(c.Serve(many-1)) != 0 || c.Waiting() != 1 || len(c.Taken()) != many-1 {
		t.Error(c.Waiting(), len(c.Taken()))
	}
	if all := c.All(); all[0] != in(many-1, (many-1)%256, many-1, 2) {
		t.Error(all)
	}
}

// TestFeedOfWrongOnes: nothing happens, in no condition.
func TestFeedOfWrongOnes(t *testing.T) {
	wrong := []api.Event{{}, event(5, 5, 5, 0), event(-1, -1, 5, 0)}
	for _, time := range noTimes {
		wrong = append(wrong, event(time, 5, 5, 1), event(time, 5, 5, allBits))
	}
	for _, key := range noKeys {
		wrong = append(wrong, event(5, key, 5, 1), event(5, key, 5, allBits))
	}
	for i, made := range conditions() {
		c := made(t)
		want := look(t, c)
		for _, e := range wrong {
			c.Feed(e)
			stands(t, []any{i, e}, c, want)
		}
	}
}

// TestFeedBetweenOffers: both wait in one order; what was fed takes room from what is offered, but no quota.
func TestFeedBetweenOffers(t *testing.T) {
	c := cell.New(1, 4, of(10, 10, 2))
	if e := c.Offer(3, in(3, 1, 5, 0)); e != api.OK {
		t.Error("first", e)
	}
	c.Feed(event(4, 1, 6, 1))
	if e := c.Offer(3, mark(5)); e != api.OK {
		t.Error("third", e)
	}
	c.Feed(event(6, 2, 7, 128))
	refuses(t, "full of what was fed", c, 4, nth(1), api.ErrFull)
	c.Feed(event(4, 1, 9, 1))
	if e := c.Offer(6, mark(10)); e != api.OK {
		t.Error("last", e)
	}
	all := []api.Input{in(3, 1, 5, 2), in(4, 1, 6, 1), plain(5), in(6, 2, 7, 128), in(4, 1, 9, 1), plain(10)}
	holds(t, "between", c, 1, 3, 1, all...)
	rows := []api.Row{row(0, 1, 11, 2, 3), row(0, 2, 7, 1, 128)}
	sameRows(t, "between", c.Serve(6), rows)
	told(t, "between", c, rows, all...)
	if c.Run.Late() != 1 {
		t.Error(c.Run.Late())
	}
}

// P15.3: Serve

// TestServeEach takes every small number, and such as are at all ends, of every small number that wait.
func TestServeEach(t *testing.T) {
	for wait := range 8 {
		ns := []int{math.MinInt, math.MinInt + 1, math.MinInt32, -1 << 32, -2, -1, 0, 1, 2, 3, wait - 1, wait, wait + 1, math.MaxInt32, 1 << 32, math.MaxInt - 1, math.MaxInt}
		for _, n := range ns {
			c := cell.New(3, 99, single())
			var all []api.Input
			for i := range wait {
				offers(t, c, nth(i), mark(i+1))
				all = append(all, nthOf(3, i), plain(i+1))
			}
			out := min(max(n, 0), len(all))
			want := rowsOf(3, 0, out/2)
			sameRows(t, []int{wait, n}, c.Serve(n), want)
			holds(t, []int{wait, n}, c, 99-2*wait, 2*wait, 0, all[out:]...)
			told(t, []int{wait, n}, c, want, all[:out]...)
		}
	}
}

// TestServeGoesOn: in whatever pieces, the rows are the same, each told by the Serve that made it, and then by Rows.
func TestServeGoesOn(t *testing.T) {
	ins := []api.Input{in(3, 1, 5, 4), in(12, 2, 1, 4), plain(10), in(4, 1, 9, 4), plain(10), in(14, 2, 2, 4), plain(15), plain(40), in(41, 1, 1, 4)}
	want := []api.Row{row(0, 1, 5, 1, 4), row(5, 2, 3, 2, 4), row(10, 2, 3, 2, 4)}
	made := []int{0, 0, 0, 1, 1, 1, 1, 2, 3, 3}
	for piece := 1; piece <= len(ins)+1; piece++ {
		c := cell.New(2, 99, of(10, 5, 2))
		offers(t, c, ins...)
		at := 0
		for at < len(ins) {
			next := min(at+piece, len(ins))
			sameRows(t, []int{piece, at}, c.Serve(piece), want[made[at]:made[next]])
			at = next
			told(t, []int{piece, at}, c, want[:made[at]], ins[:at]...)
			sameInputs(t, []int{piece, at}, c.All(), ins[at:])
		}
		sameRows(t, piece, c.Serve(piece), nil)
		told(t, piece, c, want, ins...)
	}
}

// TestServeOfNothing: in no condition does a number below 1 do anything; nor does any, if nothing waits.
func TestServeOfNothing(t *testing.T) {
	for i, made := range conditions() {
		c := made(t)
		for range 2 {
			want := look(t, c)
			for _, n := range []int{0, -1, -2, math.MinInt32, math.MinInt} {
				sameRows(t, i, c.Serve(n), nil)
				stands(t, i, c, want)
			}
			c.Serve(math.MaxInt)
		}
		want := look(t, c)
		for _, n := range []int{1, 2, math.MaxInt} {
			sameRows(t, i, c.Serve(n), nil)
			stands(t, i, c, want)
		}
	}
}

// TestServeAsksNoQuota: what waits is served, though nothing is left, and though it was fed.
func TestServeAsksNoQuota(t *testing.T) {
	c := cell.New(0, 1, single())
	c.Feed(event(1, 1, 1, 2))
	offers(t, c, mark(5))
	holds(t, "ahead", c, 0, 1, 0, in(1, 1, 1, 2), plain(5))
	sameRows(t, "served", c.Serve(2), []api.Row{row(1, 1, 1, 1, 2)})
	holds(t, "behind", c, 0, 1, 0)
}

// P15.4

// TestRowsEach asks for every number of rows from every place, of cells that have few or many.
func TestRowsEach(t *testing.T) {
	for _, count := range []int{0, 1, 2, 5, 31, 32, 33, 70} {
		c := took(t, 5, count)
		all := rowsOf(5, 0, count)
		want := look(t, c)
		ns := []int{math.MinInt, math.MinInt + 1, math.MinInt32, -33, -1, 0, 1, 2, 4, 5, 31, 32, 33, 34, 64, 70, 71, math.MaxInt32, 1 << 32, 1<<32 + 1, math.MaxInt - 70, math.MaxInt - 1, math.MaxInt}
		for from := range count + 1 {
			for _, n := range ns {
				rows, e := c.Rows(from, n)
				to := min(count, from+min(max(n, 0), mostPoll))
				if e != api.OK || !slices.Equal(rows, all[from:to]) {
					t.Errorf("Rows(%d, %d) of %d: %v, %d", from, n, count, rows, e)
				}
			}
		}
		for _, from := range []int{-1, -2, -mostPoll, math.MinInt32, -1 << 32, math.MinInt + 1, math.MinInt, count + 1, count + 2, count + mostPoll, math.MaxInt32, 1 << 32, math.MaxInt - mostPoll, math.MaxInt - 1, math.MaxInt} {
			for _, n := range ns {
				if rows, e := c.Rows(from, n); e != api.ErrRange || len(rows) != 0 {
					t.Errorf("Rows(%d, %d) of %d: %v, %d", from, n, count, rows, e)
				}
			}
		}
		stands(t, count, c, want)
	}
}

// TestRowsAreNumberedFromTheFirst: an elder number tells the same row as ever, whatever comes behind it.
func TestRowsAreNumberedFromTheFirst(t *testing.T) {
	c := cell.New(0, math.MaxInt, single())
	for count := 1; count <= 80; count++ {
		offers(t, c, nth(count-1), mark(count))
		c.Serve(2)
		for from := range count {
			if rows, e := c.Rows(from, 1); e != api.OK || !slices.Equal(rows, rowsOf(0, from, from+1)) {
				t.Fatal(count, from, rows, e)
			}
		}
		if rows, e := c.Rows(count, 1); e != api.OK || len(rows) != 0 || c.Count() != count {
			t.Fatal(count, rows, e)
		}
	}
}

// TestRowsWaitForServe: what waits, and what is open, is no row.
func TestRowsWaitForServe(t *testing.T) {
	c := cell.New(0, 9, single())
	offers(t, c, nth(0), nth(1), mark(1), mark(2))
	for i, count := range []int{0, 0, 0, 1, 2, 2} {
		told(t, i, c, rowsOf(0, 0, count), []api.Input{nth(0), nth(1), plain(1), plain(2)}[:min(i, 4)]...)
		if rows, e := c.Rows(count+1, 1); e != api.ErrRange || len(rows) != 0 {
			t.Error(i, rows, e)
		}
		c.Serve(1)
	}
}

// TestTaken: all that was served, such as made no row, too; nothing that was refused.
func TestTaken(t *testing.T) {
	c := cell.New(3, 9, of(10, 10, 2, op(4, 100)))
	told(t, "new", c, nil)
	offers(t, c, at(3, 5), mark(20), at(4, 200), mark(5))
	c.Offer(0, at(1, 1))
	c.Offer(9, at(-1, 1))
	c.Feed(event(6, 1, 300, 3))
	c.Feed(event(6, 1, 300, 0))
	told(t, "none served", c, nil)
	all := []api.Input{in(3, 0, 5, 8), plain(20), in(4, 0, 200, 8), plain(5), in(6, 1, 300, 3)}
	for n := 1; n <= len(all); n++ {
		c.Serve(1)
		told(t, n, c, nil, all[:n]...)
	}
	c.Serve(1)
	told(t, "no more", c, nil, all...)
}

// TestAskingChangesNothing: however often.
func TestAskingChangesNothing(t *testing.T) {
	for i, made := range conditions() {
		c := made(t)
		want := look(t, c)
		for range 3 {
			stands(t, i, c, want)
		}
	}
}

// New memory

// TestAnswersAreNewMemory: whatever is written over them, and over the room behind them, nothing that is told later changes.
func TestAnswersAreNewMemory(t *testing.T) {
	for n := range 12 {
		c := cell.New(1, math.MaxInt, single())
		offers(t, c, sent(1, 0, n)...)
		spoilInputs(c.All())
		offers(t, c, mark(n+1))
		spoilInputs(c.All())
		sameInputs(t, n, c.All(), append(sent(1, 0, n), plain(n+1)))
		rows := c.Serve(n + 1)
		sameRows(t, n, rows, rowsOf(1, 0, n))
		spoilRows(rows)
		for range 2 {
			told(t, n, c, rowsOf(1, 0, n), append(sent(1, 0, n), plain(n+1))...)
			spoilInputs(c.Taken())
			for from := range n + 1 {
				rows, _ := c.Rows(from, n)
				spoilRows(rows)
			}
		}
	}
}

// TestAppendToAnswers: the room behind an answer is its own, whoever else appends.
func TestAppendToAnswers(t *testing.T) {
	c := cell.New(1, math.MaxInt, single())
	var served [][]api.Row
	for n := range 40 {
		offers(t, c, nth(n), mark(n+1), nth(n+1))
		rows := c.Serve(2)
		_ = append(rows, row(-9, -9, -9, -9, 9))
		served = append(served, rows)
		some, _ := c.Rows(0, 3)
		_ = append(some, row(-9, -9, -9, -9, 9))
		_ = append(c.Taken(), mark(-9))
		_ = append(c.All(), mark(-9))
		sameInputs(t, n, c.All(), []api.Input{nthOf(1, n+1)})
		c.Pop(1)
	}
	for n, rows := range served {
		sameRows(t, n, rows, rowsOf(1, n, n+1))
	}
	sameRows(t, "all", polled(t, c), rowsOf(1, 0, 40))
	if taken := c.Taken(); len(taken) != 80 || taken[78] != nthOf(1, 39) || taken[79] != plain(40) {
		t.Error(taken)
	}
}

// TestAnswersStay: what was told doesn't change when the cell does.
func TestAnswersStay(t *testing.T) {
	for n := range 12 {
		c := took(t, 0, n)
		offers(t, c, nth(n), mark(n+1))
		rows, _ := c.Rows(0, n)
		taken, waiting := c.Taken(), c.All()
		served := c.Serve(1)
		offers(t, c, nth(n+1), mark(n+2))
		last := c.Serve(9)
		offers(t, c, nth(n+2), mark(n+3))
		c.Serve(9)
		sameRows(t, n, rows, rowsOf(0, 0, n))
		sameRows(t, n, served, nil)
		sameRows(t, n, last, rowsOf(0, n, n+2))
		sameInputs(t, n, waiting, []api.Input{nthOf(0, n), plain(n + 1)})
		if len(taken) != n+min(n, 1) || !slices.Equal(taken[:n], sent(0, 0, n)) {
			t.Error(n, taken)
		}
	}
}

// TestAnswersAreNoTwins: writing over what one told turns nothing of its twin.
func TestAnswersAreNoTwins(t *testing.T) {
	for i, made := range conditions() {
		c := made(t)
		want := look(t, c)
		x := c.Twin()
		for _, one := range []*cell.Cell{c, x} {
			spoilInputs(one.All())
			spoilInputs(one.Taken())
			rows, _ := one.Rows(0, mostPoll)
			spoilRows(rows)
			spoilRows(one.Run.Open())
		}
		stands(t, i, c, want)
		stands(t, i, x, want)
		spoilRows(c.Serve(100))
		stands(t, i, x, want)
		spoilRows(x.Serve(100))
		stands(t, i, x, look(t, c))
	}
}

// P15.5

// model keeps all that was given to a cell, and tells what must come of it.
type model struct {
	id, left, spent, refused int
	pipe                     api.Pipe
	waiting, taken           []api.Input
	rows                     []api.Row
}

func (m *model) offer(room int, given api.Input) api.Errno {
	time, key := given.Event.Time, given.Event.Key
	wrong := time < 0 || time > mostTime || key < 0 || key > mostKey
	own := in(time, key, given.Event.Value, 1<<m.id)
	if given.Mark {
		wrong, own = time < 1 || time > mostMark, plain(time)
	}
	why := api.OK
	if len(m.waiting) >= room {
		why = api.ErrFull
	}
	if m.left == 0 {
		why = api.ErrQuota
	}
	if wrong {
		why = api.ErrForm
	}
	if why != api.OK {
		m.refused++
		return why
	}
	m.left--
	m.spent++
	m.waiting = append(m.waiting, own)
	return why
}

func (m *model) feed(e api.Event) {
	if e.Time >= 0 && e.Time <= mostTime && e.Key >= 0 && e.Key <= mostKey && e.Label != 0 {
		m.waiting = append(m.waiting, api.Input{Event: e})
	}
}

// serve tells the rows that are new among all that the pipe makes of what was ever taken.
func (m *model) serve(n int) []api.Row {
	n = min(max(n, 0), len(m.waiting))
	m.taken = append(m.taken, m.waiting[:n]...)
	m.waiting = m.waiting[n:]
	old := len(m.rows)
	m.rows = whole.Rows(m.pipe, m.taken...)
	return m.rows[old:]
}

func (m *model) twin() *model {
	x := *m
	x.waiting, x.taken, x.rows = slices.Clone(m.waiting), slices.Clone(m.taken), slices.Clone(m.rows)
	return &x
}

// pair is a cell beside its model.
type pair struct {
	c *cell.Cell
	m *model
}

func pairOf(id, most int, p api.Pipe) pair {
	return pair{cell.New(id, most, p), &model{id: id, left: most, pipe: p}}
}

func (p pair) check(t *testing.T, what any) {
	t.Helper()
	holds(t, what, p.c, p.m.left, p.m.spent, p.m.refused, p.m.waiting...)
	told(t, what, p.c, p.m.rows, p.m.taken...)
}

// numbers tells one number after another, below the n that it is asked for, from a seed on.
func numbers(seed uint64) func(n int) int {
	return func(n int) int {
		seed = seed*6364136223846793005 + 1442695040888963407
		return int(seed >> 33 % uint64(n))
	}
}

// anyInput tells an ordinary one about the clock of the cell, one that is late, or one that may not be. Times lie as far apart as by says.
func (p pair) anyInput(next func(int) int, by int) api.Input {
	far := p.c.Run.Mark()
	switch next(12) {
	case 0, 1, 2:
		return mark(far + by*next(20))
	case 3:
		return mark(noMarks[next(len(noMarks))])
	case 4:
		return in(noTimes[next(len(noTimes))], 0, 1, 1)
	case 5:
		return in(far, noKeys[next(len(noKeys))], 1, 1)
	}
	return in(max(0, far+by*(next(30)-6)), next(4), next(41)-20, labels[next(len(labels))])
}

// step makes one call of any kind, of both.
func (p pair) step(t *testing.T, next func(int) int) {
	t.Helper()
	switch next(10) {
	case 0, 1, 2, 3, 4:
		given, room := p.anyInput(next, 1), next(12)-1
		if got, want := p.c.Offer(room, given), p.m.offer(room, given); got != want {
			t.Errorf("Offer(%d, %v): %d; want %d", room, given, got, want)
		}
	case 5, 6:
		e := p.anyInput(next, 1).Event
		p.c.Feed(e)
		p.m.feed(e)
	case 7, 8:
		n := next(7) - 1
		rows := p.c.Serve(n)
		sameRows(t, "served", rows, p.m.serve(n))
		spoilRows(rows)
	default:
		p.poll(t, next)
	}
}

func (p pair) poll(t *testing.T, next func(int) int) {
	t.Helper()
	from, n := next(len(p.m.rows)+4)-1, next(40)-3
	rows, e := p.c.Rows(from, n)
	if from < 0 || from > len(p.m.rows) {
		if e != api.ErrRange || len(rows) != 0 {
			t.Errorf("Rows(%d, %d): %v, %d", from, n, rows, e)
		}
		return
	}
	to := min(len(p.m.rows), from+min(max(n, 0), mostPoll))
	sameRows(t, "polled", rows, p.m.rows[from:to])
	if e != api.OK {
		t.Errorf("Rows(%d, %d): %d", from, n, e)
	}
	spoilRows(rows)
}

// TestLongRuns: calls of all kinds to several cells, some of which are twins of others on the way.
func TestLongRuns(t *testing.T) {
	pipes := []api.Pipe{single(), of(10, 5, 2, op(1, 1)), of(8, 1, 4), of(10, 4, 1, op(3, 3)), of(7, 3, 3, op(4, -5), op(2, -2))}
	rows, refused, twins := 0, 0, 0
	for seed := range 60 {
		next := numbers(uint64(seed))
		pairs := make([]pair, 3)
		for i := range pairs {
			pairs[i] = pairOf(next(tenants), 40+next(200), pipes[next(len(pipes))])
		}
		for range 400 {
			p := pairs[next(len(pairs))]
			p.step(t, next)
			if next(40) == 0 {
				twins++
				pairs[next(len(pairs))] = pair{p.c.Twin(), p.m.twin()}
			}
			for _, p := range pairs {
				p.check(t, "long runs")
			}
			if t.Failed() {
				t.Fatal("seed", seed)
			}
		}
		for _, p := range pairs {
			rows, refused = rows+p.c.Count(), refused+p.c.Refused()
		}
	}
	if rows < 1000 || refused < 1000 || twins < 300 {
		t.Error("rows", rows, "refused", refused, "twins", twins)
	}
}

// TestRowsAreOfWhatWasTaken: behind each Serve, of whatever number, in each right pipe.
func TestRowsAreOfWhatWasTaken(t *testing.T) {
	for i, p := range rightPipes() {
		next := numbers(uint64(i))
		one := pairOf(i%tenants, math.MaxInt, p)
		for range 60 {
			for range next(8) {
				given := one.anyInput(next, 1+p.Size/20)
				one.c.Offer(math.MaxInt, given)
				one.m.offer(math.MaxInt, given)
			}
			n := next(9)
			one.c.Serve(n)
			one.m.serve(n)
			sameRows(t, i, polled(t, one.c), whole.Rows(p, one.c.Taken()...))
			one.check(t, i)
		}
		if p.Ops == nil && one.c.Count() == 0 {
			t.Error("no rows of", p)
		}
	}
}

// Ways: a Cell embeds its quota and its queue.

type counted interface {
	Left() int
	Spent() int
	Refused() int
	Waiting() int
	All() []api.Input
}

// TestPromoted: they are the quota's and the queue's own.
func TestPromoted(t *testing.T) {
	c := cell.New(0, 5, single())
	var asked counted = c
	offers(t, c, nth(0), nth(1), mark(1))
	c.Offer(0, nth(2))
	if asked.Left() != 2 || asked.Spent() != 3 || asked.Refused() != 1 || asked.Waiting() != 3 {
		t.Error(asked.Left(), asked.Spent(), asked.Refused(), asked.Waiting())
	}
	if c.Quota.Left() != 2 || c.Quota.Spent() != 3 || c.Quota.Refused() != 1 || c.Queue.Waiting() != 3 {
		t.Error(c.Quota.Left(), c.Quota.Spent(), c.Quota.Refused(), c.Queue.Waiting())
	}
	sameInputs(t, "promoted", asked.All(), c.Queue.All())
	c.Quota.Refuse()
	if !c.Quota.Spend(1) || !c.Queue.Push(4, mark(3)) {
		t.Error("by hand")
	}
	holds(t, "by hand", c, 1, 4, 2, nth(0), nth(1), plain(1), mark(3))
	sameInputs(t, "by hand", c.Queue.Pop(1), []api.Input{nth(0)})
	offers(t, c, mark(2))
	refuses(t, "by hand", c, 9, nth(1), api.ErrQuota)
	sameRows(t, "what waits alone", c.Serve(9), rowsOf(0, 1, 2))
	told(t, "what was popped isn't taken", c, rowsOf(0, 1, 2), nth(1), plain(1), mark(3), plain(2))
}

// TestRunIsItsOwn: the runner is at work on what was served, and on nothing that waits.
func TestRunIsItsOwn(t *testing.T) {
	c := cell.New(0, 9, of(10, 10, 2))
	offers(t, c, at(3, 5), mark(5), at(4, 1), at(12, 2), mark(10))
	for i, want := range []state{
		{}, {seen: 1, open: []api.Row{row(0, 0, 5, 1, 1)}}, {mark: 5, seen: 1, open: []api.Row{row(0, 0, 5, 1, 1)}}, {mark: 5, late: 1, seen: 2, open: []api.Row{row(0, 0, 5, 1, 1)}},
		{mark: 5, late: 1, seen: 3, open: []api.Row{row(0, 0, 5, 1, 1), row(10, 0, 2, 1, 1)}}, {mark: 10, late: 1, seen: 3, open: []api.Row{row(10, 0, 2, 1, 1)}},
	} {
		if c.Run.Mark() != want.mark || c.Run.Late() != want.late || c.Run.Seen() != want.seen || c.Run.Len() != len(want.open) {
			t.Error(i, c.Run.Mark(), c.Run.Late(), c.Run.Seen(), c.Run.Len())
		}
		sameRows(t, i, c.Run.Open(), want.open)
		c.Serve(1)
	}
}

// TestAsMethodValues: Offer, Feed and Serve of a pointer go on with one cell.
func TestAsMethodValues(t *testing.T) {
	c := cell.New(0, 9, single())
	offer, feed, serve := c.Offer, c.Feed, c.Serve
	if offer(2, nth(0)) != api.OK || offer(1, nth(1)) != api.ErrFull {
		t.Error("offer")
	}
	feed(event(1, 1, 4, 2))
	offer(3, mark(2))
	sameRows(t, "serve", serve(3), []api.Row{row(0, 0, 1, 1, 1), row(1, 1, 4, 1, 2)})
	holds(t, "one cell", c, 7, 2, 1)
}
