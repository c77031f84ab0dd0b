package mask_test

import (
	"math"
	"slices"
	"testing"

	"cordon/mask"
)

const all = ^uint64(0)

// outside holds numbers that no set has: those next to the ends, the ends of int, and some that would be
// inside if a call took them modulo 64 or in 32 bits.
var outside = []int{
	-1, 64, 65, 99, 127, 128, -63, -64, -65, math.MinInt8, math.MaxUint8,
	math.MaxInt32, math.MinInt32, 1 << 32, 1<<32 + 3, -1 << 32,
	math.MinInt, math.MinInt + 1, math.MaxInt, math.MaxInt - 1,
}

// slowOf has each number of 0 to 63 that ids tells, worked out by a way of its own.
func slowOf(ids []int) uint64 {
	var m, one uint64 = 0, 1
	for n := range 64 {
		if slices.Contains(ids, n) {
			m += one
		}
		one += one
	}
	return m
}

// slowIds takes m apart by dividing.
func slowIds(m uint64) []int {
	var ids []int
	for n := 0; m > 0; n++ {
		if m%2 == 1 {
			ids = append(ids, n)
		}
		m /= 2
	}
	return ids
}

// sets is a list of sets of all kinds: empty, of one, of two, runs from each end, all, and some scattered ones.
func sets() []uint64 {
	l := []uint64{0, all, 0x5555555555555555, 0xaaaaaaaaaaaaaaaa, 0x8000000000000001, 0x0123456789abcdef, 0xfedcba9876543210}
	for n := range 64 {
		one := uint64(1) << n
		l = append(l, one, ^one, one-1, ^(one - 1), one|1, one|1<<63)
	}
	m := uint64(1)
	for range 100 {
		m = m*6364136223846793005 + 1442695040888963407
		l = append(l, m)
	}
	return l
}

func TestRuns(t *testing.T) {
	if m := mask.Of(0, 3, 99); m != 9 {
		t.Error("Of(0, 3, 99)", m)
	}
	if m := mask.Join(1, 8); m != 9 {
		t.Error("Join(1, 8)", m)
	}
	if m := mask.Meet(9, 8); m != 8 {
		t.Error("Meet(9, 8)", m)
	}
	if ids := mask.Ids(9); !slices.Equal(ids, []int{0, 3}) {
		t.Error("Ids(9)", ids)
	}
	if n, ok := mask.Only(8); n != 3 || !ok {
		t.Error("Only(8)", n, ok)
	}
}

// P1.1

func TestOfOrdinary(t *testing.T) {
	for _, q := range []struct {
		ids  []int
		want uint64
	}{
		{nil, 0},
		{[]int{}, 0},
		{[]int{0}, 1},
		{[]int{63}, 1 << 63},
		{[]int{0, 63}, 1<<63 | 1},
		{[]int{31, 32}, 1<<31 | 1<<32},
		{[]int{5, 1, 3}, 42},
		{[]int{3, 1, 5}, 42},
		{[]int{7, 7, 7}, 128},
		{[]int{63, 63}, 1 << 63},
		{[]int{-1, 2, 64, 4, math.MinInt, math.MaxInt}, 20},
	} {
		if m := mask.Of(q.ids...); m != q.want {
			t.Errorf("Of(%v): %x, want %x", q.ids, m, q.want)
		}
	}
	if m := mask.Of(); m != 0 {
		t.Errorf("Of(): %x", m)
	}
}

func TestOfEachNumber(t *testing.T) {
	var ids []int
	for n := -70; n < 140; n++ {
		if m := mask.Of(n); m != slowOf([]int{n}) {
			t.Errorf("Of(%d): %x", n, m)
		}
		ids = append(ids, n)
		if m := mask.Of(ids...); m != slowOf(ids) {
			t.Errorf("Of(-70 to %d): %x", n, m)
		}
	}
	if m := mask.Of(ids...); m != all {
		t.Errorf("Of all: %x", m)
	}
}

func TestOfPassesOver(t *testing.T) {
	if m := mask.Of(outside...); m != 0 {
		t.Errorf("%x", m)
	}
	for _, n := range outside {
		if m := mask.Of(n); m != 0 {
			t.Errorf("Of(%d): %x", n, m)
		}
		if m := mask.Of(0, n, 63); m != 1<<63|1 {
			t.Errorf("Of(0, %d, 63): %x", n, m)
		}
	}
}

func TestHas(t *testing.T) {
	for _, m := range sets() {
		ids := slowIds(m)
		for n := -70; n < 140; n++ {
			if mask.Has(m, n) != slices.Contains(ids, n) {
				t.Errorf("Has(%x, %d): %v", m, n, mask.Has(m, n))
			}
		}
		for _, n := range outside {
			if mask.Has(m, n) {
				t.Errorf("Has(%x, %d)", m, n)
			}
		}
	}
}

// P1.2

func TestJoinAndMeetOrdinary(t *testing.T) {
	for _, q := range []struct {
		ms         []uint64
		join, meet uint64
	}{
		{nil, 0, all},
		{[]uint64{}, 0, all},
		{[]uint64{0}, 0, 0},
		{[]uint64{all}, all, all},
		{[]uint64{5}, 5, 5},
		{[]uint64{5, 5}, 5, 5},
		{[]uint64{6, 12}, 14, 4},
		{[]uint64{12, 6}, 14, 4},
		{[]uint64{6, 12, 1}, 15, 0},
		{[]uint64{7, 14, 28}, 31, 4},
		{[]uint64{all, 0}, all, 0},
		{[]uint64{0, all}, all, 0},
		{[]uint64{all, 6, 12}, all, 4},
		{[]uint64{1 << 63, 1}, 1<<63 | 1, 0},
		{[]uint64{1<<63 | 1, 1<<63 | 2}, 1<<63 | 3, 1 << 63},
	} {
		if m := mask.Join(q.ms...); m != q.join {
			t.Errorf("Join(%x): %x, want %x", q.ms, m, q.join)
		}
		if m := mask.Meet(q.ms...); m != q.meet {
			t.Errorf("Meet(%x): %x, want %x", q.ms, m, q.meet)
		}
	}
	if mask.Join() != 0 || mask.Meet() != all {
		t.Errorf("of none: %x, %x", mask.Join(), mask.Meet())
	}
}

func TestJoinAndMeetByNumbers(t *testing.T) {
	l := sets()
	for i := range l {
		ms := []uint64{l[i], l[(i*7+3)%len(l)], l[(i*13+5)%len(l)]}
		var join, meet []int
		for n := range 64 {
			in := 0
			for _, m := range ms {
				if slices.Contains(slowIds(m), n) {
					in++
				}
			}
			if in > 0 {
				join = append(join, n)
			}
			if in == len(ms) {
				meet = append(meet, n)
			}
		}
		if m := mask.Join(ms...); m != slowOf(join) {
			t.Errorf("Join(%x): %x", ms, m)
		}
		if m := mask.Meet(ms...); m != slowOf(meet) {
			t.Errorf("Meet(%x): %x", ms, m)
		}
	}
}

func TestBelow(t *testing.T) {
	for _, q := range []struct {
		a, b uint64
		want bool
	}{
		{0, 0, true}, {0, 5, true}, {5, 0, false}, {4, 5, true}, {5, 4, false}, {5, 5, true}, {5, 10, false},
		{3, 4, false}, {all, all, true}, {0, all, true}, {all, 0, false}, {all, all - 1, false}, {all - 1, all, true},
		{1 << 63, all, true}, {1 << 63, 1<<63 - 1, false}, {1, 1 << 63, false},
	} {
		if got := mask.Below(q.a, q.b); got != q.want {
			t.Errorf("Below(%x, %x): %v", q.a, q.b, got)
		}
	}
	l := sets()
	for _, a := range l {
		ids := slowIds(a)
		for _, b := range l[:40] {
			missing := slices.ContainsFunc(ids, func(n int) bool { return !mask.Has(b, n) })
			if mask.Below(a, b) == missing {
				t.Errorf("Below(%x, %x): %v", a, b, !missing)
			}
		}
	}
}

// P1.3

func TestIdsAndCount(t *testing.T) {
	for _, m := range sets() {
		want := slowIds(m)
		if ids := mask.Ids(m); !slices.Equal(ids, want) {
			t.Errorf("Ids(%x): %v", m, ids)
		}
		if n := mask.Count(m); n != len(want) {
			t.Errorf("Count(%x): %d", m, n)
		}
		if back := mask.Of(mask.Ids(m)...); back != m {
			t.Errorf("Of(Ids(%x)): %x", m, back)
		}
	}
}

func TestIdsAndCountEnds(t *testing.T) {
	if ids := mask.Ids(0); ids != nil || mask.Count(0) != 0 {
		t.Error("empty", ids, mask.Count(0))
	}
	if mask.Count(all) != 64 {
		t.Error("all", mask.Count(all))
	}
	ids := mask.Ids(all)
	if len(ids) != 64 {
		t.Fatal("all", ids)
	}
	for n, id := range ids {
		if id != n {
			t.Error(n, id)
		}
	}
	if ids := mask.Ids(1<<63 | 1); !slices.Equal(ids, []int{0, 63}) {
		t.Error("both ends", ids)
	}
}

func TestOnly(t *testing.T) {
	for _, m := range sets() {
		want, is := -1, false
		if ids := slowIds(m); len(ids) == 1 {
			want, is = ids[0], true
		}
		if n, ok := mask.Only(m); n != want || ok != is {
			t.Errorf("Only(%x): %d, %v", m, n, ok)
		}
	}
	for n := range 64 {
		if id, ok := mask.Only(mask.Of(n)); id != n || !ok {
			t.Errorf("Only(Of(%d)): %d, %v", n, id, ok)
		}
	}
	for _, m := range []uint64{0, 3, 1<<63 | 1, 1<<63 | 1<<62, all, all - 1} {
		if n, ok := mask.Only(m); n != -1 || ok {
			t.Errorf("Only(%x): %d, %v", m, n, ok)
		}
	}
}

// P1.4

// few is all sets of four numbers, both ends among them, so that the laws can be asked of every one.
func few() []uint64 {
	var l []uint64
	for i := range 16 {
		var ids []int
		for n, id := range []int{0, 1, 40, 63} {
			if i>>n&1 == 1 {
				ids = append(ids, id)
			}
		}
		l = append(l, slowOf(ids))
	}
	return append(l, all)
}

func TestBelowIsAnOrder(t *testing.T) {
	l := few()
	for _, a := range l {
		if !mask.Below(a, a) {
			t.Errorf("%x isn't below itself", a)
		}
		for _, b := range l {
			if a != b && mask.Below(a, b) && mask.Below(b, a) {
				t.Errorf("%x and %x are below each other", a, b)
			}
			for _, c := range l {
				if mask.Below(a, b) && mask.Below(b, c) && !mask.Below(a, c) {
					t.Errorf("%x, %x, %x aren't a chain", a, b, c)
				}
			}
		}
	}
}

// holdAll asks of ms whether the join is the least that all are below, and the meet the greatest below all.
func holdAll(t *testing.T, bounds []uint64, ms ...uint64) {
	t.Helper()
	join, meet := mask.Join(ms...), mask.Meet(ms...)
	for _, m := range ms {
		if !mask.Below(m, join) || !mask.Below(meet, m) {
			t.Errorf("%x: join %x, meet %x", ms, join, meet)
		}
	}
	for _, bound := range bounds {
		above, below := true, true
		for _, m := range ms {
			above = above && mask.Below(m, bound)
			below = below && mask.Below(bound, m)
		}
		if above && !mask.Below(join, bound) {
			t.Errorf("%x: %x is a lesser one above than %x", ms, bound, join)
		}
		if below && !mask.Below(bound, meet) {
			t.Errorf("%x: %x is a greater one below than %x", ms, bound, meet)
		}
	}
}

func TestJoinIsLeastAndMeetIsGreatest(t *testing.T) {
	l := few()
	holdAll(t, l)
	for _, a := range l {
		holdAll(t, l, a)
		for _, b := range l {
			holdAll(t, l, a, b)
			for _, c := range l {
				holdAll(t, l, a, b, c)
			}
		}
	}
	holdAll(t, sets(), sets()...)
}

// R2

func TestNothingHandedInIsChanged(t *testing.T) {
	ids := []int{9, -1, 3, 99, 3, 77, 78}
	ms := []uint64{9, 8, all, 0, 5, 6}
	keptIds, keptMs := slices.Clone(ids), slices.Clone(ms)
	mask.Of(ids[:5]...)
	mask.Join(ms[:4]...)
	mask.Meet(ms[:4]...)
	if !slices.Equal(ids, keptIds) || !slices.Equal(ms, keptMs) {
		t.Error(ids, ms)
	}
}

func TestIdsAreNewMemory(t *testing.T) {
	first := mask.Ids(9)
	second := mask.Ids(9)
	for i := range first[:cap(first)] {
		first[:cap(first)][i] = -7
	}
	if !slices.Equal(second, []int{0, 3}) || !slices.Equal(mask.Ids(9), []int{0, 3}) {
		t.Error(second, mask.Ids(9))
	}
}
