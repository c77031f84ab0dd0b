package agg_test

import (
	"math"
	"math/big"
	"slices"
	"testing"

	"cordon/agg"
	"cordon/api"
)

// ints holds numbers of all kinds: the ends of int, the ends of narrower kinds, and their neighbours.
var ints = []int{
	math.MinInt, math.MinInt + 1, -1 << 62, -1<<62 - 1, math.MinInt32 - 1, math.MinInt32, -256, -9, -2, -1,
	0, 1, 2, 3, 4, 5, 7, 255, 256, math.MaxInt32, math.MaxInt32 + 1, 1 << 32, 1<<32 + 1, 1 << 62, 1<<62 + 1, math.MaxInt - 1, math.MaxInt,
}

// kinds holds the four, and some that are none.
var kinds = []int{1, 2, 3, 4, 0, 5, -1, 1<<32 + 1, 1<<32 + 4, math.MinInt, math.MaxInt}

// lists holds values as they may come: none, one, several, equal ones, both signs, sums that go round.
var lists = [][]int{
	nil, {0}, {1}, {-1}, {5}, {-5}, {math.MinInt}, {math.MaxInt}, {0, 0}, {0, 5}, {0, -5}, {5, 0}, {-5, 0}, {5, 5}, {-5, -5},
	{2, 3}, {3, 2}, {-2, -3}, {-3, -2}, {4, -1, 7}, {7, -1, 4}, {9, 9}, {1, 2, 3, 4, 5}, {-1, -2, -3, -4, -5},
	{math.MaxInt, 1}, {math.MinInt, -1}, {math.MaxInt, math.MaxInt}, {math.MinInt, math.MinInt}, {math.MaxInt, math.MinInt}, {math.MinInt, math.MaxInt},
	{1 << 62, 1 << 62, 1 << 62}, {-1 << 62, -1 << 62, -1 << 62}, {math.MaxInt, math.MaxInt, math.MaxInt, 5, -6}, {1 << 32, 1, -1 << 32, 1 << 31},
}

func of(kind int, vs ...int) agg.Agg {
	a := agg.New(kind)
	a.Add(vs...)
	return a
}

// slowSum adds without a bound, and goes round at the end alone.
func slowSum(vs []int) int {
	sum := new(big.Int)
	for _, v := range vs {
		sum.Add(sum, big.NewInt(int64(v)))
	}
	round := new(big.Int).Lsh(big.NewInt(1), 64)
	return int(sum.Mod(sum, round).Uint64())
}

// slow tells what an aggregate of these values must be, of all of them at once.
func slow(kind int, vs []int) agg.Agg {
	want := agg.Agg{Tally: agg.Tally{Count: len(vs)}, Kind: kind}
	if len(vs) == 0 {
		return want
	}
	switch kind {
	case 1:
		want.Value = len(vs)
	case 2:
		want.Value = slowSum(vs)
	case 3:
		want.Value = slices.Min(vs)
	case 4:
		want.Value = slices.Max(vs)
	}
	return want
}

func check(t *testing.T, what string, got, want agg.Agg) {
	t.Helper()
	if got != want {
		t.Errorf("%s: %+v; want %+v", what, got, want)
	}
}

func checkOf(t *testing.T, kind int, vs []int, value int) {
	t.Helper()
	got := of(kind, vs...)
	if got.Kind != kind || got.Value != value || got.Count != len(vs) {
		t.Errorf("kind %d, Add(%v): %+v; want Value %d", kind, vs, got, value)
	}
}

// orders tells all orders of the values.
func orders(vs []int) [][]int {
	if len(vs) == 0 {
		return [][]int{nil}
	}
	var all [][]int
	for i, v := range vs {
		rest := slices.Delete(slices.Clone(vs), i, i+1)
		for _, order := range orders(rest) {
			all = append(all, append([]int{v}, order...))
		}
	}
	return all
}

func TestRuns(t *testing.T) {
	checkOf(t, api.ASum, []int{2, 3}, 5)
	checkOf(t, api.AMin, []int{4, -1, 7}, -1)
	checkOf(t, api.ACount, []int{9, 9}, 2)
}

// P7.1

func TestRight(t *testing.T) {
	for _, kind := range []int{api.ACount, api.ASum, api.AMin, api.AMax} {
		if !agg.Right(kind) {
			t.Error("not right", kind)
		}
	}
	for _, kind := range []int{api.ACount - 1, api.AMax + 1} {
		if agg.Right(kind) {
			t.Error("right", kind)
		}
	}
	for _, kind := range slices.Concat(ints, kinds) {
		if got := agg.Right(kind); got != (kind == 1 || kind == 2 || kind == 3 || kind == 4) {
			t.Errorf("Right(%d): %v", kind, got)
		}
	}
}

// TestNew: a kind that is none stays as it is, too.
func TestNew(t *testing.T) {
	for _, kind := range slices.Concat(ints, kinds) {
		a := agg.New(kind)
		if a.Kind != kind || a.Count != 0 || a.Value != 0 {
			t.Errorf("New(%d): %+v", kind, a)
		}
	}
}

func TestTick(t *testing.T) {
	var tally agg.Tally
	for _, q := range []struct{ n, want int }{{0, 0}, {1, 1}, {5, 6}, {0, 6}, {-2, 4}, {-9, -5}, {5, 0}, {1 << 40, 1 << 40}, {-1 << 40, 0}} {
		tally.Tick(q.n)
		if tally.Count != q.want {
			t.Errorf("Tick(%d): %d; want %d", q.n, tally.Count, q.want)
		}
	}
	for _, n := range ints {
		for _, from := range []int{0, 3, -3} {
			tally := agg.Tally{Count: from}
			tally.Tick(n)
			if tally.Count != slowSum([]int{from, n}) {
				t.Errorf("Tick(%d) of %d: %d", n, from, tally.Count)
			}
		}
	}
}

// TestTallyIsEmbedded: an aggregate's Count and Tick are its Tally's own, and touch nothing beside it.
func TestTallyIsEmbedded(t *testing.T) {
	for _, kind := range kinds {
		a := of(kind, 7, 4)
		value := a.Value
		a.Tick(5)
		if a.Count != 7 || a.Tally.Count != 7 {
			t.Errorf("kind %d, Tick: %+v", kind, a)
		}
		a.Tally.Tick(-2)
		if a.Count != 5 || a.Tally.Count != 5 {
			t.Errorf("kind %d, the Tally's Tick: %+v", kind, a)
		}
		a.Count = 9
		if a.Tally != (agg.Tally{Count: 9}) {
			t.Errorf("kind %d, Count: %+v", kind, a)
		}
		if a.Kind != kind || a.Value != value {
			t.Errorf("kind %d, changed: %+v", kind, a)
		}
	}
}

// TestAggIsEmbedded: a type that embeds an aggregate has what the aggregate's Tally has.
func TestAggIsEmbedded(t *testing.T) {
	pot := struct {
		agg.Agg
		Name int
	}{Agg: agg.New(api.ASum), Name: 3}
	pot.Add(4, 5)
	pot.Tick(1)
	if pot.Count != 3 || pot.Value != 9 || pot.Kind != api.ASum || pot.Name != 3 {
		t.Errorf("%+v", pot)
	}
	if !pot.Merge(of(api.ASum, 1)) || pot.Count != 4 || pot.Value != 10 {
		t.Errorf("%+v", pot)
	}
}

// P7.2

func TestAddOrdinary(t *testing.T) {
	for _, q := range []struct {
		kind  int
		vs    []int
		value int
	}{
		{api.ACount, []int{0}, 1}, {api.ACount, []int{-4}, 1}, {api.ACount, []int{9, -9, 0}, 3}, {api.ACount, []int{math.MaxInt, math.MinInt}, 2},
		{api.ASum, []int{0}, 0}, {api.ASum, []int{-4}, -4}, {api.ASum, []int{4, -9}, -5}, {api.ASum, []int{5, -5}, 0}, {api.ASum, []int{5, 5, 5}, 15},
		{api.AMin, []int{5}, 5}, {api.AMin, []int{-5}, -5}, {api.AMin, []int{5, 3}, 3}, {api.AMin, []int{3, 5}, 3}, {api.AMin, []int{-5, -3}, -5}, {api.AMin, []int{-3, -5}, -5},
		{api.AMin, []int{5, 5}, 5}, {api.AMin, []int{5, 0}, 0}, {api.AMin, []int{-5, 0}, -5}, {api.AMin, []int{0, 5}, 0}, {api.AMin, []int{5, 9, 5, 3, 3, 7}, 3},
		{api.AMax, []int{5}, 5}, {api.AMax, []int{-5}, -5}, {api.AMax, []int{5, 3}, 5}, {api.AMax, []int{3, 5}, 5}, {api.AMax, []int{-5, -3}, -3}, {api.AMax, []int{-3, -5}, -3},
		{api.AMax, []int{-5, -5}, -5}, {api.AMax, []int{5, 0}, 5}, {api.AMax, []int{-5, 0}, 0}, {api.AMax, []int{0, -5}, 0}, {api.AMax, []int{5, 9, 5, 9, 3, 7}, 9},
	} {
		checkOf(t, q.kind, q.vs, q.value)
	}
}

// TestFirstValueIsTaken: whatever it is, the first value is the least and the greatest of what came.
func TestFirstValueIsTaken(t *testing.T) {
	for _, v := range ints {
		checkOf(t, api.AMin, []int{v}, v)
		checkOf(t, api.AMax, []int{v}, v)
		checkOf(t, api.ASum, []int{v}, v)
		checkOf(t, api.ACount, []int{v}, 1)
	}
}

func TestAddOfTwo(t *testing.T) {
	for _, v := range ints {
		for _, w := range ints {
			for _, kind := range kinds {
				check(t, "two", of(kind, v, w), slow(kind, []int{v, w}))
			}
		}
	}
}

func TestSumGoesRound(t *testing.T) {
	for _, q := range []struct {
		vs   []int
		want int
	}{
		{[]int{math.MaxInt, 1}, math.MinInt}, {[]int{math.MinInt, -1}, math.MaxInt}, {[]int{math.MaxInt, math.MaxInt}, -2}, {[]int{math.MinInt, math.MinInt}, 0},
		{[]int{1 << 62, 1 << 62}, math.MinInt}, {[]int{1 << 62, 1 << 62, 1 << 62, 1 << 62}, 0}, {[]int{math.MaxInt, 1, -1}, math.MaxInt}, {[]int{math.MaxInt, math.MinInt}, -1},
		{[]int{math.MaxInt32, 1}, 1 << 31}, {[]int{1<<32 - 1, 1}, 1 << 32},
	} {
		checkOf(t, api.ASum, q.vs, q.want)
	}
}

// TestAddOfNone: nothing is done, of an aggregate with values and of one without.
func TestAddOfNone(t *testing.T) {
	for _, kind := range kinds {
		for _, vs := range lists {
			a := of(kind, vs...)
			a.Add()
			a.Add(nil...)
			a.Add([]int{}...)
			check(t, "none", a, slow(kind, vs))
		}
	}
}

func TestAddOneByOne(t *testing.T) {
	for _, kind := range kinds {
		for _, vs := range lists {
			a := agg.New(kind)
			for i, v := range vs {
				a.Add(v)
				check(t, "one by one", a, slow(kind, vs[:i+1]))
			}
			check(t, "at once", of(kind, vs...), slow(kind, vs))
		}
	}
}

// TestAddOfNoKind: Count alone counts.
func TestAddOfNoKind(t *testing.T) {
	for _, kind := range kinds {
		if kind >= 1 && kind <= 4 {
			continue
		}
		for _, vs := range lists {
			checkOf(t, kind, vs, 0)
		}
	}
	var zero agg.Agg
	zero.Add(4, 5)
	check(t, "the zero value", zero, agg.Agg{Tally: agg.Tally{Count: 2}})
}

// TestAddAsksCount: a Count of 0 that Tick made takes the next value as the first one, and any other Count doesn't.
func TestAddAsksCount(t *testing.T) {
	for _, q := range []struct{ kind, had, ticks, v, value int }{
		{api.AMin, 3, -1, 8, 8}, {api.AMax, 8, -1, 3, 3}, {api.AMin, 3, 0, 8, 3}, {api.AMax, 8, 0, 3, 8},
		{api.AMin, 3, -2, 8, 3}, {api.AMax, 8, -2, 3, 8}, {api.AMin, 3, -2, 1, 1}, {api.AMax, 8, -2, 9, 9}, {api.AMin, 3, 4, 8, 3}, {api.AMax, 8, 4, 3, 8},
		{api.ASum, 3, -1, 8, 11}, {api.ACount, 3, -1, 8, 2},
	} {
		a := of(q.kind, q.had)
		a.Tick(q.ticks)
		a.Add(q.v)
		check(t, "ticked", a, agg.Agg{Tally: agg.Tally{Count: 2 + q.ticks}, Kind: q.kind, Value: q.value})
	}
	ahead := agg.New(api.AMin)
	ahead.Tick(1)
	ahead.Add(5)
	check(t, "ticked ahead", ahead, agg.Agg{Tally: agg.Tally{Count: 2}, Kind: api.AMin, Value: 0})
}

// TestAddOfMany: many at once come to what slow says of them.
func TestAddOfMany(t *testing.T) {
	vs := make([]int, 5000)
	for i := range vs {
		vs[i] = (i*7919 + 13) * (i*104729 - 5) * 0x9e3779b97f4a7c1
	}
	for _, kind := range kinds {
		check(t, "many", of(kind, vs...), slow(kind, vs))
	}
}

// P7.3

func TestMergeOfUnlikeKinds(t *testing.T) {
	for _, kind := range kinds {
		for _, other := range kinds {
			if kind == other {
				continue
			}
			for _, vs := range lists {
				a, o := of(kind, 4, -6), of(other, vs...)
				if a.Merge(o) {
					t.Errorf("%d merges %d", kind, other)
				}
				check(t, "unlike", a, slow(kind, []int{4, -6}))
				none := agg.New(kind)
				if none.Merge(o) {
					t.Errorf("%d merges %d", kind, other)
				}
				check(t, "unlike, of none", none, agg.Agg{Kind: kind})
			}
		}
	}
}

func TestMergeOrdinary(t *testing.T) {
	for _, q := range []struct {
		kind      int
		mine, its []int
		value     int
	}{
		{api.ACount, []int{9}, []int{8, 7}, 3}, {api.ASum, []int{4}, []int{5, -1}, 8}, {api.AMin, []int{4}, []int{5, 3}, 3}, {api.AMin, []int{3}, []int{5, 4}, 3},
		{api.AMax, []int{4}, []int{5, 3}, 5}, {api.AMax, []int{9}, []int{5, 3}, 9}, {api.AMin, []int{4}, []int{4}, 4}, {api.AMax, []int{4}, []int{4}, 4},
		{api.AMin, nil, []int{7, 9}, 7}, {api.AMax, nil, []int{-7, -9}, -7}, {api.AMin, []int{7, 9}, nil, 7}, {api.AMax, []int{-7, -9}, nil, -7},
		{api.ASum, []int{math.MaxInt}, []int{1}, math.MinInt}, {api.ASum, []int{math.MinInt}, []int{-1}, math.MaxInt},
		{0, []int{4}, []int{5, 6}, 0}, {5, []int{4}, nil, 0},
	} {
		a := of(q.kind, q.mine...)
		if !a.Merge(of(q.kind, q.its...)) {
			t.Errorf("kind %d: %v and %v aren't merged", q.kind, q.mine, q.its)
		}
		check(t, "merged", a, agg.Agg{Tally: agg.Tally{Count: len(q.mine) + len(q.its)}, Kind: q.kind, Value: q.value})
	}
}

// TestMergeEach lays every list beside every other one, none of values among them, and adds behind the merge.
func TestMergeEach(t *testing.T) {
	for _, kind := range kinds {
		for _, mine := range lists {
			for _, its := range lists {
				a, o := of(kind, mine...), of(kind, its...)
				if !a.Merge(o) {
					t.Errorf("kind %d: %v and %v aren't merged", kind, mine, its)
				}
				both := slices.Concat(mine, its)
				check(t, "merged", a, slow(kind, both))
				check(t, "the other", o, slow(kind, its))
				a.Add(6, -6)
				check(t, "added behind", a, slow(kind, append(both, 6, -6)))
			}
		}
	}
}

// TestMergeOfNone: what has no values changes nothing, on either side, and as often as it comes.
func TestMergeOfNone(t *testing.T) {
	for _, kind := range kinds {
		for _, vs := range lists {
			a, none := of(kind, vs...), agg.New(kind)
			for range 3 {
				if !a.Merge(none) {
					t.Error("not merged", kind)
				}
				check(t, "none merged", a, slow(kind, vs))
			}
			if !none.Merge(a) {
				t.Error("not merged", kind)
			}
			check(t, "into none", none, slow(kind, vs))
		}
		nobody := agg.New(kind)
		if !nobody.Merge(agg.New(kind)) {
			t.Error("not merged", kind)
		}
		check(t, "none into none", nobody, agg.Agg{Kind: kind})
		nobody.Add(-3)
		check(t, "added behind", nobody, slow(kind, []int{-3}))
	}
}

func TestMergeWithItself(t *testing.T) {
	for _, kind := range kinds {
		for _, vs := range lists {
			a := of(kind, vs...)
			all := vs
			for range 3 {
				all = slices.Concat(all, all)
				if !a.Merge(a) {
					t.Error("not merged", kind)
				}
				check(t, "with itself", a, slow(kind, all))
			}
		}
	}
}

// TestMergeOfMerged: an aggregate that Merge made is merged as one that Add made, however the parts are laid together.
func TestMergeOfMerged(t *testing.T) {
	parts := [][]int{{4, -9}, nil, {math.MaxInt}, {0, 0, 3}}
	want := slices.Concat(parts...)
	for _, kind := range kinds {
		for _, order := range orders([]int{0, 1, 2, 3}) {
			onto := agg.New(kind)
			for _, p := range order {
				onto.Merge(of(kind, parts[p]...))
			}
			check(t, "one onto the other", onto, slow(kind, want))
			left, right := of(kind, parts[order[0]]...), of(kind, parts[order[2]]...)
			left.Merge(of(kind, parts[order[1]]...))
			right.Merge(of(kind, parts[order[3]]...))
			left.Merge(right)
			check(t, "two and two", left, slow(kind, want))
		}
	}
}

// TestMergeIntoTicked: a Count that Tick made is asked as Add asks it.
func TestMergeIntoTicked(t *testing.T) {
	for _, kind := range []int{api.AMin, api.AMax} {
		for _, ticks := range []int{-1, 0, 2} {
			a := of(kind, 5)
			a.Tick(ticks)
			b := a
			a.Merge(of(kind, 7, 6))
			b.Add(7, 6)
			check(t, "ticked", a, b)
			a, b = of(kind, 5), of(kind, 5)
			a.Tick(ticks)
			b.Tick(ticks)
			a.Merge(agg.New(kind))
			check(t, "ticked, none merged", a, b)
		}
	}
}

// P7.4

func TestOrderDoesNotMatter(t *testing.T) {
	for _, vs := range [][]int{
		{4, -1, 7}, {0, 0, 5, -5}, {math.MaxInt, 1, math.MinInt, -1, 1}, {1 << 62, 1 << 62, 1 << 62, -3, 9}, {-2, -2, -7, -7}, {8, 6, 6, 8},
	} {
		for _, kind := range kinds {
			for _, order := range orders(vs) {
				check(t, "in any order", of(kind, order...), slow(kind, vs))
			}
		}
	}
}

// TestBackwards: lists of many values come to the same backwards, and sorted.
func TestBackwards(t *testing.T) {
	vs := make([]int, 999)
	for i := range vs {
		vs[i] = (i*7919+13)*(i-500)<<40 - i
	}
	back, sorted := slices.Clone(vs), slices.Clone(vs)
	slices.Reverse(back)
	slices.Sort(sorted)
	for _, kind := range kinds {
		want := of(kind, vs...)
		check(t, "backwards", of(kind, back...), want)
		check(t, "sorted", of(kind, sorted...), want)
	}
}

// R2 and R5

// TestCopiesAreValues: what is done to a copy isn't seen in what it was copied from.
func TestCopiesAreValues(t *testing.T) {
	for _, kind := range kinds {
		a := of(kind, 4)
		b := a
		b.Add(9, -9)
		b.Tick(3)
		check(t, "the first", a, slow(kind, []int{4}))
		a.Merge(b)
		kept := b
		a.Add(1)
		check(t, "the merged", b, kept)
	}
	first := agg.New(api.ASum)
	first.Add(5)
	check(t, "a new one", agg.New(api.ASum), agg.Agg{Kind: api.ASum})
}

func TestRoomBehindIsLeftAlone(t *testing.T) {
	vs := []int{9, 4, 7, -20, 50}
	kept := slices.Clone(vs)
	for _, kind := range kinds {
		check(t, "some", of(kind, vs[:3]...), slow(kind, []int{9, 4, 7}))
		check(t, "none", of(kind, vs[3:3]...), slow(kind, nil))
	}
	if !slices.Equal(vs, kept) {
		t.Error("changed", vs)
	}
}

// TestValuesAreNotKept: a list that is changed behind Add changes nothing.
func TestValuesAreNotKept(t *testing.T) {
	for _, kind := range kinds {
		vs := []int{9, 4, 7}
		a := of(kind, vs...)
		vs[0], vs[1] = -100, 100
		check(t, "kept", a, slow(kind, []int{9, 4, 7}))
	}
}
