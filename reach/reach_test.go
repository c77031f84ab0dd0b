package reach_test

import (
	"math"
	"slices"
	"testing"

	"cordon/agg"
	"cordon/api"
	"cordon/pipe"
	"cordon/reach"
)

const (
	tenants  = 8
	mostRow  = 4
	mostTick = 100
	mostOps  = 6
	mostKey  = 255
	mostSize = 1 << 20
	none     = -1
	allBits  = math.MaxUint64
)

// ends holds numbers that no field of a sink may be, no tenant has and no place is: the ends of int, and such as
// would be right in a narrower kind, or modulo a power of two.
var ends = []int{
	math.MinInt, math.MinInt + 1, math.MinInt + 2, math.MinInt32, -1 << 32, -1<<32 + 2, -1 << 62, -1 << 40, -256, -254, -128,
	256, 257, 258, 1 << 16, 1<<16 + 2, math.MaxInt32, math.MaxInt32 + 1, 1<<32 - 1, 1 << 32, 1<<32 + 1, 1<<32 + 2, 1<<62 + 1, math.MaxInt - 1, math.MaxInt,
}

// outsiders holds sets with none of the tenants in them: each number beyond them, some of these together, and all.
var outsiders = func() []uint64 {
	l := []uint64{1<<8 | 1<<9, 1<<8 | 1<<63, 1<<31 | 1<<32, 0x100000100, 0xff00, 0xff << 56, 0xffffffff00000000, allBits - 255}
	for n := 8; n < 64; n++ {
		l = append(l, 1<<n)
	}
	return l
}()

func sink(from, to uint64, least, kind, ticks int) api.Sink {
	return api.Sink{From: from, To: to, Least: least, Agg: kind, Ticks: ticks}
}

// one is right, with all its parts unlike.
func one() api.Sink { return sink(7, 8, 2, 1, 5) }

// but is one, but for what change does to it.
func but(change func(s *api.Sink)) api.Sink {
	s := one()
	change(&s)
	return s
}

// rights holds sinks that may be, each bound among them.
func rights() []api.Sink {
	return []api.Sink{
		one(), sink(1, 0, 2, 1, 1), sink(128, 0, 2, 1, 1), sink(129, 129, 8, 4, 100), sink(255, 255, 8, 4, 100), sink(255, 0, 2, 2, 99),
		sink(1, 128, 2, 3, 50), sink(128, 1, 3, 3, 2), sink(3, 12, 4, 2, 7), sink(12, 3, 5, 1, 64), sink(85, 170, 6, 2, 33), sink(6, 6, 7, 3, 10),
		// Of more than can ever give: what Least asks for is not held against From.
		sink(1, 2, 8, 2, 5), sink(3, 4, 3, 2, 5),
	}
}

// wrongs holds sinks that may not be, each by one thing alone, and some by several.
func wrongs() []api.Sink {
	l := []api.Sink{
		{}, sink(allBits, allBits, math.MaxInt, math.MaxInt, math.MaxInt), sink(0, 0, 1, 0, 0), sink(256, 256, 9, 5, 101), sink(7, 8, 1, 5, 5),
		but(func(s *api.Sink) { s.From = 0 }), but(func(s *api.Sink) { s.From, s.To = 0, 0 }),
	}
	for _, m := range outsiders {
		l = append(l, but(func(s *api.Sink) { s.From = m }), but(func(s *api.Sink) { s.From |= m }), but(func(s *api.Sink) { s.To = m }), but(func(s *api.Sink) { s.To |= m }))
	}
	for _, n := range append([]int{-2, -1, 0, 1, 9, 10, 16}, ends...) {
		l = append(l, but(func(s *api.Sink) { s.Least = n }))
	}
	for _, n := range append([]int{-2, -1, 0, 5, 6, 8}, ends...) {
		l = append(l, but(func(s *api.Sink) { s.Agg = n }))
	}
	for _, n := range append([]int{-2, -1, 0, 101, 102, 127, 128, 255}, ends...) {
		l = append(l, but(func(s *api.Sink) { s.Ticks = n }))
	}
	return l
}

func op(kind, n int) api.Op { return api.Op{Kind: kind, N: n} }

// of is a pipe with this Sink and this Feed, right if these are.
func of(to, from int) api.Pipe {
	return api.Pipe{Ops: []api.Op{op(1, 7), op(6, 4)}, Size: 10, Slide: 5, Agg: 2, Sink: to, Feed: from}
}

// wrongPipes holds pipes of this Sink and this Feed that may not be, each by one other thing alone.
func wrongPipes(to, from int) []api.Pipe {
	var l []api.Pipe
	add := func(change func(p *api.Pipe)) {
		p := of(to, from)
		change(&p)
		l = append(l, p)
	}
	add(func(p *api.Pipe) { p.Ops = make([]api.Op, 1) })
	add(func(p *api.Pipe) { p.Ops = slices.Repeat([]api.Op{op(1, 1)}, mostOps+1) })
	for _, q := range [][2]int{{0, 0}, {0, 1}, {10, 0}, {10, -5}, {-10, -5}, {4, 5}, {9, 10}, {9, 1}, {mostSize + 1, mostSize}, {mostSize, mostSize/8 - 1}, {math.MaxInt, math.MaxInt}, {math.MinInt, math.MinInt}} {
		add(func(p *api.Pipe) { p.Size, p.Slide = q[0], q[1] })
	}
	for _, o := range []api.Op{op(0, 1), op(-1, 1), op(7, 1), op(3, 0), op(3, -1), op(3, mostKey+2), op(6, -1), op(6, mostKey+1), op(math.MaxInt, 1), op(math.MinInt, 1)} {
		add(func(p *api.Pipe) { p.Ops[0] = o })
		add(func(p *api.Pipe) { p.Ops[1] = o })
	}
	for _, n := range []int{0, -1, 5, 6, 256, 257, 1<<32 + 1, math.MinInt, math.MaxInt} {
		add(func(p *api.Pipe) { p.Agg = n })
	}
	return l
}

// rightPipes holds pipes of this Sink and this Feed whose other things are at their bounds.
func rightPipes(to, from int) []api.Pipe {
	l := []api.Pipe{
		of(to, from),
		{Size: 1, Slide: 1, Agg: 1}, {Size: 8, Slide: 1, Agg: 4}, {Size: mostSize, Slide: mostSize / 8, Agg: 3}, {Size: mostSize, Slide: mostSize, Agg: 2}, {Ops: []api.Op{}, Size: 100, Slide: 13, Agg: 1},
		{Ops: []api.Op{op(3, 1), op(3, mostKey+1), op(6, 0), op(6, mostKey), op(4, math.MinInt), op(5, math.MaxInt)}, Size: 10, Slide: 10, Agg: 2},
		{Ops: slices.Repeat([]api.Op{op(2, math.MinInt)}, mostOps), Size: 10, Slide: 5, Agg: 2},
	}
	for i := range l {
		l[i].Sink, l[i].Feed = to, from
	}
	return l
}

// has asks for n in m by dividing.
func has(m uint64, n int) bool {
	if n < 0 || n > 63 {
		return false
	}
	for range n {
		m /= 2
	}
	return m%2 == 1
}

// together has all that one of ms has, worked out number by number.
func together(ms ...uint64) uint64 {
	var all, bit uint64 = 0, 1
	for n := range 64 {
		for _, m := range ms {
			if has(m, n) {
				all += bit
				break
			}
		}
		bit += bit
	}
	return all
}

func alone(id int) uint64 { return []uint64{1, 2, 4, 8, 16, 32, 64, 128}[id] }

// numbers tells numbers that hop about, the same ones at each run.
func numbers(seed uint64) func(below int) int {
	return func(below int) int {
		seed = seed*6364136223846793005 + 1442695040888963407
		return int(seed>>33) % below
	}
}

// says asks May and Of of the same: of is 0 where ok is false.
func says(t *testing.T, what any, id int, p api.Pipe, l []api.Sink, of uint64) {
	t.Helper()
	if may := reach.May(id, p, l...); may != (of != 0) {
		t.Errorf("%v: May(%d, %v, %v): %t", what, id, p, l, may)
	}
	if label := reach.Of(id, p, l...); label != of {
		t.Errorf("%v: Of(%d, %v, %v): %#x, want %#x", what, id, p, l, label, of)
	}
}

func TestRuns(t *testing.T) {
	l := []api.Sink{{From: 1 | 2 | 4, To: 8, Least: 2, Agg: api.ASum, Ticks: 5}}
	p := api.Pipe{Size: 10, Slide: 10, Agg: api.ASum, Sink: api.None, Feed: 0}
	if !reach.Sink(l[0]) || !reach.Sinks(l...) {
		t.Error("the sink")
	}
	if !reach.May(3, p, l...) {
		t.Error("May of 3")
	}
	if reach.May(2, p, l...) {
		t.Error("May of 2")
	}
	if label := reach.Of(3, p, l...); label != 1|2|4|8 {
		t.Error("Of", label)
	}
}

// P16.1

func TestSink(t *testing.T) {
	for i, s := range rights() {
		if !reach.Sink(s) {
			t.Error("right", i, s)
		}
	}
	for i, s := range wrongs() {
		if reach.Sink(s) {
			t.Error("wrong", i, s)
		}
	}
}

func TestSinkOfFromAndTo(t *testing.T) {
	for from := range uint64(600) {
		for to := range uint64(600) {
			if reach.Sink(sink(from, to, 2, 2, 5)) != (from >= 1 && from <= 255 && to <= 255) {
				t.Error(from, to)
			}
		}
	}
}

func TestSinkOfFromByMembers(t *testing.T) {
	for n := range 64 {
		if reach.Sink(but(func(s *api.Sink) { s.From = 1 << n })) != (n < tenants) {
			t.Error("alone", n)
		}
		if reach.Sink(but(func(s *api.Sink) { s.From |= 1 << n })) != (n < tenants) {
			t.Error("with others", n)
		}
	}
	for _, from := range []uint64{allBits, allBits - 255, allBits - 1, 511, 256 + 128, 1 << 63, 1<<63 | 1} {
		if reach.Sink(but(func(s *api.Sink) { s.From = from })) {
			t.Error(from)
		}
	}
	if !reach.Sink(but(func(s *api.Sink) { s.From = 255 })) || reach.Sink(but(func(s *api.Sink) { s.From = 0 })) {
		t.Error("all, or none")
	}
}

func TestSinkOfToByMembers(t *testing.T) {
	for n := range 64 {
		if reach.Sink(but(func(s *api.Sink) { s.To = 1 << n })) != (n < tenants) {
			t.Error("alone", n)
		}
		if reach.Sink(but(func(s *api.Sink) { s.To |= 1 << n })) != (n < tenants) {
			t.Error("with others", n)
		}
	}
	for _, to := range []uint64{allBits, allBits - 255, allBits - 1, 511, 256 + 128, 1 << 63, 1<<63 | 1} {
		if reach.Sink(but(func(s *api.Sink) { s.To = to })) {
			t.Error(to)
		}
	}
	if !reach.Sink(but(func(s *api.Sink) { s.To = 255 })) || !reach.Sink(but(func(s *api.Sink) { s.To = 0 })) {
		t.Error("all, or none")
	}
}

func TestSinkOfLeast(t *testing.T) {
	for n := -300; n <= 300; n++ {
		if reach.Sink(but(func(s *api.Sink) { s.Least = n })) != (n >= 2 && n <= 8) {
			t.Error(n)
		}
	}
	for _, n := range ends {
		if reach.Sink(but(func(s *api.Sink) { s.Least = n })) {
			t.Error(n)
		}
	}
}

// Nothing says that From must have as many as Least asks for.
func TestSinkOfLeastAndFrom(t *testing.T) {
	for from := range uint64(256) {
		for least := range 11 {
			if reach.Sink(sink(from, 8, least, 2, 5)) != (from > 0 && least >= 2 && least <= 8) {
				t.Error(from, least)
			}
		}
	}
}

func TestSinkOfAgg(t *testing.T) {
	for n := -300; n <= 300; n++ {
		ok := reach.Sink(but(func(s *api.Sink) { s.Agg = n }))
		if ok != (n == 1 || n == 2 || n == 3 || n == 4) || ok != agg.Right(n) {
			t.Error(n)
		}
	}
	for _, n := range ends {
		if reach.Sink(but(func(s *api.Sink) { s.Agg = n })) || agg.Right(n) {
			t.Error(n)
		}
	}
}

func TestSinkOfTicks(t *testing.T) {
	for n := -300; n <= 300; n++ {
		if reach.Sink(but(func(s *api.Sink) { s.Ticks = n })) != (n >= 1 && n <= mostTick) {
			t.Error(n)
		}
	}
	for _, n := range ends {
		if reach.Sink(but(func(s *api.Sink) { s.Ticks = n })) {
			t.Error(n)
		}
	}
}

// Each thing at each side of its bounds, with all the others at theirs.
func TestSinkOfAllBoundsTogether(t *testing.T) {
	for _, from := range []uint64{0, 1, 128, 255, 256, 1 << 63, allBits} {
		for _, to := range []uint64{0, 1, 128, 255, 256, 1 << 63, allBits} {
			for _, least := range []int{math.MinInt, -1, 1, 2, 8, 9, math.MaxInt} {
				for _, kind := range []int{math.MinInt, -1, 0, 1, 4, 5, math.MaxInt} {
					for _, ticks := range []int{math.MinInt, -1, 0, 1, 100, 101, math.MaxInt} {
						want := (from == 1 || from == 128 || from == 255) && (to == 0 || to == 1 || to == 128 || to == 255) &&
							(least == 2 || least == 8) && (kind == 1 || kind == 4) && (ticks == 1 || ticks == 100)
						if s := sink(from, to, least, kind, ticks); reach.Sink(s) != want {
							t.Error(s)
						}
					}
				}
			}
		}
	}
}

func TestSinksByHowMany(t *testing.T) {
	if !reach.Sinks() || !reach.Sinks(nil...) || !reach.Sinks([]api.Sink{}...) {
		t.Error("none")
	}
	if !reach.Sinks(one()) || !reach.Sinks(one(), one(), one(), one()) || reach.Sinks(one(), one(), one(), one(), one()) {
		t.Error("one by one")
	}
	for n := range 300 {
		if reach.Sinks(slices.Repeat([]api.Sink{one()}, n)...) != (n <= mostRow) {
			t.Error(n)
		}
	}
	for _, n := range []int{1 << 16, 1<<16 + 1, 1<<16 + 4} {
		if reach.Sinks(slices.Repeat([]api.Sink{one()}, n)...) {
			t.Error(n)
		}
	}
}

func TestSinksAllRight(t *testing.T) {
	l := rights()
	for i := range l {
		for n := 0; n <= mostRow && i+n <= len(l); n++ {
			if !reach.Sinks(l[i : i+n]...) {
				t.Error(i, n)
			}
		}
		if n := mostRow + 1; i+n <= len(l) && reach.Sinks(l[i:i+n]...) {
			t.Error("too many", i)
		}
	}
}

func TestSinksWithOneWrong(t *testing.T) {
	for i, wrong := range wrongs() {
		for n := 1; n <= mostRow+2; n++ {
			for place := range n {
				l := slices.Repeat([]api.Sink{one()}, n)
				l[place] = wrong
				if reach.Sinks(l...) {
					t.Error(i, n, place)
				}
			}
		}
	}
}

func TestSinksWithSeveralWrong(t *testing.T) {
	wrong := wrongs()
	next := numbers(161)
	for range 2000 {
		n, right := next(6), true
		l := make([]api.Sink, n)
		for i := range l {
			if l[i] = one(); next(3) == 0 {
				l[i], right = wrong[next(len(wrong))], false
			}
		}
		if reach.Sinks(l...) != (right && n <= mostRow) {
			t.Error(l)
		}
	}
	if reach.Sinks(make([]api.Sink, 1)...) || reach.Sinks(make([]api.Sink, mostRow)...) || reach.Sinks(make([]api.Sink, mostRow+1)...) {
		t.Error("all wrong")
	}
}

// What stands behind the length of a list is not of it.
func TestSinksInRoomBehind(t *testing.T) {
	l := []api.Sink{one(), one(), {}, {}, one(), one()}
	if !reach.Sinks(l[:2]...) || reach.Sinks(l[:3]...) || !reach.Sinks(l[4:]...) || !reach.Sinks(l[:0]...) {
		t.Error(l)
	}
	many := slices.Repeat([]api.Sink{one()}, 9)
	if !reach.Sinks(many[:4]...) || reach.Sinks(many[:5]...) {
		t.Error("many")
	}
}

// P16.2

func TestMayOfIds(t *testing.T) {
	open := []api.Sink{sink(allBits, allBits, 2, 2, 5)}
	for _, p := range []api.Pipe{of(none, none), of(0, none), of(none, 0), of(0, 0)} {
		for id := -300; id <= 300; id++ {
			if reach.May(id, p, open...) != (id >= 0 && id <= 7) {
				t.Error(p, id)
			}
		}
		for _, id := range append([]int{math.MinInt + 8, 1<<32 + 7, 1<<62 + 7, -1<<32 + 7}, ends...) {
			if reach.May(id, p, open...) || reach.Of(id, p, open...) != 0 {
				t.Error(p, id)
			}
		}
	}
}

func TestMayOfPipes(t *testing.T) {
	open := []api.Sink{sink(255, 255, 2, 2, 5), sink(255, 255, 2, 2, 5), sink(255, 255, 2, 2, 5), sink(255, 255, 2, 2, 5)}
	for to := none; to < mostRow; to++ {
		for from := none; from < mostRow; from++ {
			for id := range tenants {
				for i, p := range rightPipes(to, from) {
					if !reach.May(id, p, open...) || reach.Of(id, p, open...) == 0 {
						t.Error("right", i, id, to, from)
					}
				}
				for i, p := range wrongPipes(to, from) {
					says(t, i, id, p, open, 0)
				}
			}
		}
	}
	if reach.May(0, api.Pipe{}) || reach.May(0, api.Pipe{}, open...) {
		t.Error("zero")
	}
}

// A place that may be named is one of the list, and one that the pipe is right with: either bound alone is not enough.
func TestMayOfPlaces(t *testing.T) {
	for n := range 9 {
		l := slices.Repeat([]api.Sink{sink(255, 255, 2, 2, 5)}, n)
		for place := -10; place <= 10; place++ {
			want := place == -1 || place >= 0 && place <= 3 && place < n
			if reach.May(4, of(place, none), l...) != want {
				t.Error("Sink", n, place)
			}
			if reach.May(4, of(none, place), l...) != want {
				t.Error("Feed", n, place)
			}
			if reach.May(4, of(place, place), l...) != want {
				t.Error("both", n, place)
			}
		}
		for _, place := range append([]int{-2, 4, 5, 8, 9}, ends...) {
			says(t, "Sink", 4, of(place, none), l, 0)
			says(t, "Feed", 4, of(none, place), l, 0)
			says(t, "both", 4, of(place, place), l, 0)
		}
	}
}

func TestMayWithoutSinks(t *testing.T) {
	for id := range tenants {
		if !reach.May(id, of(none, none)) || !reach.May(id, of(none, none), nil...) || !reach.May(id, of(none, none), []api.Sink{}...) {
			t.Error(id)
		}
		for place := range 5 {
			if reach.May(id, of(place, none)) || reach.May(id, of(none, place), nil...) || reach.May(id, of(place, place), []api.Sink{}...) {
				t.Error(id, place)
			}
		}
	}
}

// One sink is right to be named and the other one not, whichever of the two it is.
func TestMayOfOnePlaceOfTwo(t *testing.T) {
	l := []api.Sink{sink(255, 255, 2, 2, 5), sink(255, 255, 2, 2, 5)}
	for _, q := range []struct {
		to, from int
		ok       bool
	}{{0, 0, true}, {0, 1, true}, {1, 0, true}, {1, 1, true}, {0, none, true}, {none, 1, true}, {0, 2, false}, {2, 0, false}, {1, 2, false}, {2, 1, false}, {2, 2, false}, {2, none, false}, {none, 2, false}, {0, 4, false}, {4, 0, false}, {0, -2, false}, {-2, 0, false}} {
		if reach.May(0, of(q.to, q.from), l...) != q.ok || reach.May(7, of(q.to, q.from), l...) != q.ok {
			t.Error(q)
		}
	}
}

func TestMayOfFromAndTo(t *testing.T) {
	// Tenant 2 and tenant 5 may each do what the other may not; 0 and 7 both; 1 and 6 neither.
	l := []api.Sink{sink(1|4|128, 1|32|128, 2, 2, 5)}
	for _, q := range []struct {
		id              int
		gives, is, both bool
	}{{0, true, true, true}, {1, false, false, false}, {2, true, false, false}, {3, false, false, false}, {4, false, false, false}, {5, false, true, false}, {6, false, false, false}, {7, true, true, true}} {
		if reach.May(q.id, of(0, none), l...) != q.gives {
			t.Error("gives", q.id)
		}
		if reach.May(q.id, of(none, 0), l...) != q.is {
			t.Error("is told", q.id)
		}
		if reach.May(q.id, of(0, 0), l...) != q.both {
			t.Error("both", q.id)
		}
		if !reach.May(q.id, of(none, none), l...) {
			t.Error("neither", q.id)
		}
	}
}

// Each tenant in each of the four sets of two sinks or not: the From of its Sink and the To of its Feed alone count.
func TestMayOfSetsThatCount(t *testing.T) {
	for id := range tenants {
		own := alone(id)
		for in := range 16 {
			set := func(n int) uint64 {
				if in>>n%2 == 1 {
					return own
				}
				return 255 - own
			}
			l := []api.Sink{sink(set(0), set(1), 2, 2, 5), sink(set(2), set(3), 2, 2, 5)}
			first, second := in%2 == 1, in>>3%2 == 1
			if reach.May(id, of(0, 1), l...) != (first && second) {
				t.Error("both", id, in)
			}
			if reach.May(id, of(0, none), l...) != first {
				t.Error("Sink", id, in)
			}
			if reach.May(id, of(none, 1), l...) != second {
				t.Error("Feed", id, in)
			}
			if !reach.May(id, of(none, none), l...) {
				t.Error("none", id, in)
			}
		}
	}
}

// Of the sinks that it names, the rest plays no part either, right or not.
func TestMayOfSinksThatAreNotRight(t *testing.T) {
	for _, q := range []struct{ least, kind, ticks int }{{0, 0, 0}, {1, 2, 5}, {9, 2, 5}, {2, 5, 5}, {2, 2, 0}, {2, 2, 101}, {math.MinInt, math.MinInt, math.MinInt}, {math.MaxInt, math.MaxInt, math.MaxInt}} {
		l := []api.Sink{sink(7, 8, q.least, q.kind, q.ticks)}
		says(t, q, 3, of(none, 0), l, 15)
		says(t, q, 2, of(none, 0), l, 0)
		says(t, q, 2, of(0, none), l, 4)
		says(t, q, 3, of(0, none), l, 0)
	}
	// Members that are no tenants are nobody who may.
	far := []api.Sink{sink(allBits-255, allBits-255, 2, 2, 5), sink(0, 0, 2, 2, 5)}
	for id := -1; id <= 64; id++ {
		for place := range far {
			says(t, "far", id, of(place, none), far, 0)
			says(t, "far", id, of(none, place), far, 0)
		}
	}
}

// P16.3

func TestOfWithFeed(t *testing.T) {
	for id := range tenants {
		for from := range uint64(256) {
			l := []api.Sink{sink(from, 255, 2, 2, 5)}
			says(t, "fed", id, of(none, 0), l, together(alone(id), from))
		}
	}
}

func TestOfWrittenOut(t *testing.T) {
	l := []api.Sink{sink(0b00000111, 0b00111000, 2, 2, 5), sink(0b01010101, 0b10101010, 3, 1, 10), sink(0b11111111, 0b00000001, 8, 4, 100), sink(0b10000000, 0b11111111, 2, 3, 1)}
	for i, q := range []struct {
		id, to, from int
		of           uint64
	}{
		{0, none, none, 0b00000001}, {7, none, none, 0b10000000}, {4, none, none, 0b00010000},
		{3, none, 0, 0b00001111}, {4, none, 0, 0b00010111}, {5, none, 0, 0b00100111}, {2, none, 0, 0}, {6, none, 0, 0}, {7, none, 0, 0},
		{1, none, 1, 0b01010111}, {3, none, 1, 0b01011101}, {7, none, 1, 0b11010101}, {0, none, 1, 0}, {6, none, 1, 0},
		{0, none, 2, 0b11111111}, {1, none, 2, 0}, {7, none, 2, 0},
		{0, none, 3, 0b10000001}, {6, none, 3, 0b11000000}, {7, none, 3, 0b10000000},
		{0, 0, none, 0b00000001}, {2, 0, none, 0b00000100}, {3, 0, none, 0}, {6, 1, none, 0b01000000}, {7, 1, none, 0}, {5, 2, none, 0b00100000}, {7, 3, none, 0b10000000}, {6, 3, none, 0},
		{0, 0, 2, 0b11111111}, {0, 0, 3, 0b10000001}, {1, 0, 1, 0b01010111}, {2, 0, 0, 0}, {3, 0, 0, 0}, {4, 1, 0, 0b00010111}, {5, 2, 1, 0b01110101}, {7, 3, 3, 0b10000000}, {6, 3, 3, 0}, {7, 3, 2, 0}, {7, 2, 3, 0b10000000},
	} {
		says(t, i, q.id, of(q.to, q.from), l, q.of)
	}
}

// That its Feed tells of it itself makes no difference to what else is told of.
func TestOfSelfInFrom(t *testing.T) {
	for id := range tenants {
		own := alone(id)
		for _, others := range []uint64{0, 1, 128, 255 - own, 129} {
			in := []api.Sink{sink(together(others, own), own, 2, 2, 5)}
			out := []api.Sink{sink(together(others, own)-own, own, 2, 2, 5)}
			says(t, "in it", id, of(none, 0), in, together(others, own))
			says(t, "not in it", id, of(none, 0), out, together(others, own))
		}
	}
}

// What the Feed's own From has is told of, be it a tenant or not, and be the sink right or not.
func TestOfFromBeyondTenants(t *testing.T) {
	for _, from := range append([]uint64{allBits, allBits - 1, 1 << 63, 1<<63 | 1}, outsiders...) {
		for id := range tenants {
			says(t, "beyond", id, of(none, 0), []api.Sink{sink(from, 255, 2, 2, 5)}, together(from, alone(id)))
		}
	}
}

func TestOfWhereItMayNot(t *testing.T) {
	open := []api.Sink{sink(allBits, allBits, 2, 2, 5), sink(allBits, allBits, 2, 2, 5)}
	for _, id := range append([]int{-1, -2, -64, 8, 9, 63, 64, 65, 128}, ends...) {
		for _, p := range []api.Pipe{of(none, none), of(0, none), of(none, 0), of(0, 1), of(1, 1)} {
			says(t, "id", id, p, open, 0)
		}
	}
	for id := range tenants {
		for i, p := range append(append(wrongPipes(none, none), wrongPipes(none, 0)...), wrongPipes(1, 0)...) {
			says(t, i, id, p, open, 0)
		}
		for _, place := range append([]int{-2, 2, 3, 4, 8}, ends...) {
			says(t, "place", id, of(place, none), open, 0)
			says(t, "place", id, of(none, place), open, 0)
			says(t, "place", id, of(place, 0), open, 0)
			says(t, "place", id, of(0, place), open, 0)
		}
	}
}

func TestGives(t *testing.T) {
	for i, q := range []struct {
		label, from uint64
		ok          bool
	}{
		{0, 0, true}, {0, 7, true}, {0, allBits, true}, {1, 0, false}, {allBits, 0, false}, {1 << 63, 0, false},
		{1, 7, true}, {2, 7, true}, {4, 7, true}, {3, 7, true}, {5, 7, true}, {6, 7, true}, {7, 7, true},
		{8, 7, false}, {9, 7, false}, {15, 7, false}, {7, 6, false}, {7, 3, false}, {7, 8, false}, {255, 7, false}, {248, 7, false},
		{128, 128, true}, {128, 127, false}, {127, 128, false}, {255, 255, true}, {255, 254, false}, {256, 255, false}, {511, 255, false}, {256, 256, true},
		{allBits, allBits, true}, {allBits, 255, false}, {allBits, allBits - 1, false}, {allBits, allBits >> 1, false}, {allBits - 1, allBits, true}, {allBits >> 1, allBits, true},
		{1 << 63, 1 << 63, true}, {1 << 63, allBits >> 1, false}, {1 << 32, 1, false}, {1, 1 << 32, false}, {1<<32 | 1, 1, false}, {1 << 31, math.MaxUint32, true},
	} {
		if reach.Gives(api.Row{Label: q.label}, api.Sink{From: q.from}) != q.ok {
			t.Error(i, q)
		}
	}
}

func TestGivesOfSets(t *testing.T) {
	for label := range uint64(512) {
		for from := range uint64(512) {
			want := true
			for n := range 9 {
				want = want && (!has(label, n) || has(from, n))
			}
			if reach.Gives(api.Row{Label: label}, api.Sink{From: from}) != want {
				t.Error(label, from)
			}
		}
	}
	for n := range 64 {
		for other := range 64 {
			l, s := uint64(1)<<n, uint64(1)<<other
			if reach.Gives(api.Row{Label: l}, api.Sink{From: s}) != (n == other) || reach.Gives(api.Row{Label: l}, api.Sink{From: allBits - s}) != (n != other) {
				t.Error(n, other)
			}
		}
	}
}

func TestGivesOfNothingElse(t *testing.T) {
	fill := []int{math.MinInt, -1, 0, 1, 7, 8, math.MaxInt}
	for _, n := range fill {
		for _, m := range fill {
			for _, to := range []uint64{0, 1, 7, 8, 255, allBits} {
				s := sink(7, to, n, m, n)
				for _, q := range []struct {
					label uint64
					ok    bool
				}{{0, true}, {7, true}, {5, true}, {8, false}, {15, false}, {allBits, false}} {
					if reach.Gives(api.Row{Start: m, Key: n, Value: m, Count: n, Label: q.label}, s) != q.ok {
						t.Error(n, m, to, q)
					}
				}
			}
		}
	}
}

// P16.4

// somePlace tells None, or a place that may be one of a list's.
func somePlace(next func(int) int) int { return next(5) - 1 }

func someSinks(next func(int) int, n int) []api.Sink {
	l := make([]api.Sink, n)
	for i := range l {
		l[i] = sink(uint64(next(256)), uint64(next(256)), next(12)-1, next(7)-1, next(103)-1)
	}
	return l
}

func TestOfWithoutFeed(t *testing.T) {
	next := numbers(164)
	for range 3000 {
		l := someSinks(next, next(7))
		for id := range tenants {
			says(t, "no sink, no feed", id, of(none, none), l, alone(id))
			for place := range min(len(l), mostRow) {
				want := uint64(0)
				if has(l[place].From, id) {
					want = alone(id)
				}
				says(t, "no feed", id, of(place, none), l, want)
			}
		}
	}
	for id := range tenants {
		says(t, "no sinks", id, of(none, none), nil, alone(id))
		says(t, "all", id, of(none, none), slices.Repeat([]api.Sink{sink(allBits, allBits, 2, 2, 5)}, 6), alone(id))
		says(t, "all, its sink", id, of(3, none), slices.Repeat([]api.Sink{sink(allBits, allBits, 2, 2, 5)}, 6), alone(id))
	}
}

// Who is told of comes through the sink that feeds it, whose To it is in, and through none of the others.
func TestOfThroughItsFeedAlone(t *testing.T) {
	next := numbers(165)
	told := 0
	for range 20000 {
		id, p, l := next(8), of(somePlace(next), somePlace(next)), someSinks(next, 4)
		label := reach.Of(id, p, l...)
		for n := range 64 {
			if n == id || !has(label, n) {
				continue
			}
			told++
			if p.Feed == none || !has(l[p.Feed].From, n) || !has(l[p.Feed].To, id) {
				t.Fatal(id, p, l, n)
			}
		}
		for i := range l {
			if i != p.Feed && i != p.Sink {
				l[i] = someSinks(next, 1)[0]
			}
		}
		if reach.Of(id, p, l...) != label {
			t.Fatal(id, p, l, label)
		}
	}
	if told < 1000 {
		t.Error("told of others", told)
	}
}

// Against an answer put together from the words of P16.2 and P16.3, number by number.
func TestMayAndOfAtLength(t *testing.T) {
	next := numbers(162)
	seen := [2]int{}
	for range 50000 {
		id, l := next(12)-2, someSinks(next, next(6))
		p := of(next(7)-2, next(7)-2)
		if next(4) == 0 {
			wrong := wrongPipes(p.Sink, p.Feed)
			p = wrong[next(len(wrong))]
		}
		may := id >= 0 && id < 8 && pipe.Right(p)
		if may && p.Sink != none {
			may = p.Sink < len(l) && has(l[p.Sink].From, id)
		}
		if may && p.Feed != none {
			may = p.Feed < len(l) && has(l[p.Feed].To, id)
		}
		want := uint64(0)
		if may {
			want = alone(id)
			if p.Feed != none {
				want = together(want, l[p.Feed].From)
			}
			seen[1]++
		} else {
			seen[0]++
		}
		says(t, "at length", id, p, l, want)
	}
	if seen[0] < 1000 || seen[1] < 1000 {
		t.Error(seen)
	}
}

func TestMoreSinksBehind(t *testing.T) {
	next := numbers(163)
	for range 3000 {
		n := next(5)
		l := someSinks(next, n)
		id, p := next(10)-1, of(next(n+1)-1, next(n+1)-1)
		may, label := reach.May(id, p, l...), reach.Of(id, p, l...)
		for _, more := range [][]api.Sink{{{}}, {one()}, {sink(allBits, allBits, 2, 2, 5)}, someSinks(next, 4), make([]api.Sink, 40)} {
			longer := append(slices.Clone(l), more...)
			if reach.May(id, p, longer...) != may || reach.Of(id, p, longer...) != label {
				t.Fatal(id, p, l, more)
			}
		}
	}
}

// What stands behind the length of a list is no place of it.
func TestMayInRoomBehind(t *testing.T) {
	l := slices.Repeat([]api.Sink{sink(255, 255, 2, 2, 5)}, 4)
	for n := range 5 {
		for place := range 4 {
			want := uint64(0)
			if place < n {
				want = 16
			}
			says(t, n, 4, of(place, none), l[:n], want)
			if place < n {
				want = 255
			}
			says(t, n, 4, of(none, place), l[:n], want)
		}
	}
	p := of(none, none)
	p.Ops = append(make([]api.Op, 0, 8), op(1, 1))
	if !reach.May(4, p) || reach.Of(4, p) != 16 {
		t.Error("room behind Ops")
	}
}

// What is handed in

func TestNothingIsWrittenOver(t *testing.T) {
	sinks := []api.Sink{one(), sink(255, 255, 8, 4, 100), {}, sink(allBits, allBits, -1, -1, -1), one(), sink(1, 2, 3, 4, 5)}
	ops := []api.Op{op(1, 7), op(6, 4), op(9, 9), op(2, 2), op(0, 0)}
	ownSinks, ownOps := slices.Clone(sinks), slices.Clone(ops)
	for n := range len(sinks) + 1 {
		reach.Sinks(sinks[:n]...)
		for id := -1; id <= 8; id++ {
			for k := range len(ops) + 1 {
				for place := -2; place <= 5; place++ {
					p := of(place, 3-place)
					p.Ops = ops[:k]
					reach.May(id, p, sinks[:n]...)
					reach.Of(id, p, sinks[:n]...)
				}
			}
		}
	}
	if !slices.Equal(sinks, ownSinks) || !slices.Equal(ops, ownOps) {
		t.Error(sinks, ops)
	}
}

// Nothing is kept from one call for another, whatever stands in the lists by then.
func TestNothingIsKept(t *testing.T) {
	l := []api.Sink{one()}
	p := of(none, 0)
	for range 3 {
		l[0] = one()
		says(t, "as it was", 3, p, l, 15)
		l[0].From, l[0].To = 16, 4
		says(t, "written over", 3, p, l, 0)
		says(t, "written over", 2, p, l, 20)
		p.Ops[0] = op(0, 0)
		says(t, "wrong", 2, p, l, 0)
		p.Ops[0] = op(1, 7)
		if l[0] = (api.Sink{}); reach.Sinks(l...) || !reach.Sinks(l[:0]...) {
			t.Error("Sinks")
		}
	}
}

// Ways: variadic functions

func TestVariadic(t *testing.T) {
	a, b := one(), sink(8, 7, 2, 1, 1)
	l := []api.Sink{a, b}
	p := of(none, 1)
	if !reach.Sinks(a, b) || !reach.Sinks(l...) || !reach.Sinks(a) || !reach.Sinks() {
		t.Error("Sinks")
	}
	if reach.May(2, p) || reach.May(2, p, a) || !reach.May(2, p, a, b) || !reach.May(2, p, l...) || reach.May(2, p, b, a) {
		t.Error("May")
	}
	if reach.Of(2, p) != 0 || reach.Of(2, p, a) != 0 || reach.Of(2, p, a, b) != 12 || reach.Of(2, p, l...) != 12 || reach.Of(2, p, b, a) != 0 {
		t.Error("Of")
	}
}
