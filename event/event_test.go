package event_test

import (
	"math"
	"slices"
	"testing"

	"cordon/api"
	"cordon/event"
)

func at(time, key, value int, label uint64) api.Event {
	return api.Event{Time: time, Key: key, Value: value, Label: label}
}

// ints holds numbers of all kinds, rising: the ends of int, those next to them, the ends of narrower
// kinds, the limits, and their neighbours.
var ints = []int{
	math.MinInt, math.MinInt + 1, -1 << 40, math.MinInt32 - 1, math.MinInt32, -256, -255, -2, -1,
	0, 1, 2, 254, 255, 256, 257, math.MaxInt32, math.MaxInt32 + 1, 1 << 32, 1<<32 + 1,
	1<<40 - 1, 1 << 40, 1<<40 + 1, 1 << 41, math.MaxInt - 1, math.MaxInt,
}

var labels = []uint64{0, 1, 2, 3, 1 << 31, 1 << 32, 1<<63 - 1, 1 << 63, 1<<63 + 1, math.MaxUint64}

func TestRuns(t *testing.T) {
	if n := event.Compare(at(1, 2, 3, 0), at(1, 2, 4, 0)); n != -1 {
		t.Error("Compare of (1, 2, 3) and (1, 2, 4)", n)
	}
	if n := event.Latest(at(4, 0, 0, 0), at(9, 0, 0, 0)); n != 9 {
		t.Error("Latest of Times 4, 9", n)
	}
}

// P2.1

func TestRightOrdinary(t *testing.T) {
	for _, q := range []struct {
		e    api.Event
		want bool
	}{
		{at(5, 7, 11, 1), true},
		{at(5, 7, -11, 6), true},
		{at(0, 0, 0, 1), true},
		{at(1<<40, 255, 0, 1), true},
		{at(1<<40, 0, 0, 1<<63), true},
		{at(0, 255, 0, math.MaxUint64), true},
		{at(1<<40-1, 254, 0, 1), true},
		{at(5, 7, 11, 0), false},
		{at(0, 0, 0, 0), false},
		{at(-1, 7, 11, 1), false},
		{at(1<<40+1, 7, 11, 1), false},
		{at(5, -1, 11, 1), false},
		{at(5, 256, 11, 1), false},
		{at(math.MinInt, 7, 11, 1), false},
		{at(math.MaxInt, 7, 11, 1), false},
		{at(5, math.MinInt, 11, 1), false},
		{at(5, math.MaxInt, 11, 1), false},
		{at(-1, -1, -1, 0), false},
		{at(7, 1<<40, 11, 1), false},
		{api.Event{}, false},
	} {
		if got := event.Right(q.e); got != q.want {
			t.Errorf("Right(%v): %v", q.e, got)
		}
	}
}

// TestRightEach lays every number in every place: each place is asked for itself, and Value for nothing.
func TestRightEach(t *testing.T) {
	times := []int{0, 1, 2, 254, 255, 256, 257, math.MaxInt32, math.MaxInt32 + 1, 1 << 32, 1<<32 + 1, 1<<40 - 1, 1 << 40}
	keys := []int{0, 1, 2, 254, 255}
	for _, time := range ints {
		for _, key := range ints {
			for _, value := range ints {
				for _, label := range labels {
					want := slices.Contains(times, time) && slices.Contains(keys, key) && label != 0
					if e := at(time, key, value, label); event.Right(e) != want {
						t.Fatalf("Right(%v): %v", e, !want)
					}
				}
			}
		}
	}
}

func TestRightKeyByKey(t *testing.T) {
	for key := -600; key <= 600; key++ {
		want := key > -1 && key < 256
		if event.Right(at(3, key, 0, 1)) != want {
			t.Error("Key", key)
		}
	}
}

// P2.2

// rising is a list that rises by Time, then Key, then Value, then Label. Where a field goes up, those that
// count less go back from their greatest number to their least.
func rising() []api.Event {
	var l []api.Event
	for _, time := range []int{math.MinInt, -1, 0, 1, 1 << 40, math.MaxInt} {
		for _, key := range []int{math.MinInt, -1, 0, 255, math.MaxInt} {
			for _, value := range []int{math.MinInt, math.MinInt + 1, -1, 0, 1, math.MaxInt} {
				for _, label := range []uint64{0, 1, 2, 1 << 63, math.MaxUint64} {
					l = append(l, at(time, key, value, label))
				}
			}
		}
	}
	return l
}

func TestCompareOrdinary(t *testing.T) {
	for _, q := range []struct {
		a, b api.Event
		want int
	}{
		{at(1, 2, 3, 4), at(1, 2, 3, 4), 0},
		{api.Event{}, api.Event{}, 0},
		{at(1, 9, 9, 9), at(2, 0, 0, 0), -1},
		{at(2, 0, 0, 0), at(1, 9, 9, 9), 1},
		{at(1, 1, 9, 9), at(1, 2, 0, 0), -1},
		{at(1, 2, 0, 0), at(1, 1, 9, 9), 1},
		{at(1, 2, 3, 9), at(1, 2, 4, 0), -1},
		{at(1, 2, 4, 0), at(1, 2, 3, 9), 1},
		{at(1, 2, 3, 4), at(1, 2, 3, 5), -1},
		{at(1, 2, 3, 5), at(1, 2, 3, 4), 1},
		{at(1, 2, -3, 4), at(1, 2, 3, 4), -1},
		{at(10, 2, 3, 4), at(9, 2, 3, 4), 1},
		// Their differences don't fit in an int.
		{at(math.MinInt, 0, 0, 1), at(math.MaxInt, 0, 0, 1), -1},
		{at(0, math.MinInt, 0, 1), at(0, math.MaxInt, 0, 1), -1},
		{at(0, 0, math.MinInt, 1), at(0, 0, math.MaxInt, 1), -1},
		{at(0, 0, math.MaxInt, 1), at(0, 0, math.MinInt, 1), 1},
		// As signed numbers, these labels would stand the other way.
		{at(0, 0, 0, 1), at(0, 0, 0, 1<<63), -1},
		{at(0, 0, 0, math.MaxUint64), at(0, 0, 0, 0), 1},
	} {
		if got := event.Compare(q.a, q.b); got != q.want {
			t.Errorf("Compare(%v, %v): %d, want %d", q.a, q.b, got, q.want)
		}
	}
}

func TestCompareEach(t *testing.T) {
	l := rising()
	for i, a := range l {
		for k, b := range l {
			want := 0
			if i < k {
				want = -1
			}
			if i > k {
				want = 1
			}
			if got := event.Compare(a, b); got != want {
				t.Fatalf("Compare(%v, %v): %d, want %d", a, b, got, want)
			}
		}
	}
}

func TestCompareSorts(t *testing.T) {
	want := rising()
	// 7 shares no divisor with the length, so that each event is taken just once.
	var turned []api.Event
	for i := range want {
		turned = append(turned, want[i*7%len(want)])
	}
	slices.SortFunc(turned, event.Compare)
	if !slices.Equal(turned, want) {
		t.Error("not sorted")
	}
}

// P2.3

func ofTimes(times ...int) []api.Event {
	var es []api.Event
	for _, time := range times {
		es = append(es, at(time, 3, 1000, 1))
	}
	return es
}

func TestLatest(t *testing.T) {
	for _, q := range []struct {
		times []int
		want  int
	}{
		{nil, -1},
		{[]int{0}, 0},
		{[]int{1 << 40}, 1 << 40},
		{[]int{5}, 5},
		{[]int{4, 9, 2}, 9},
		{[]int{9, 4, 2}, 9},
		{[]int{2, 4, 9}, 9},
		{[]int{9, 9}, 9},
		{[]int{0, 0, 0}, 0},
		{[]int{0, 1 << 40, 7}, 1 << 40},
		{[]int{-1, 0}, 0},
		{[]int{-1}, -1},
		{[]int{-7}, -7},
		{[]int{-7, -3, -9}, -3},
		{[]int{-3, -7}, -3},
		{[]int{math.MinInt}, math.MinInt},
		{[]int{math.MinInt, math.MinInt + 1}, math.MinInt + 1},
		{[]int{math.MinInt, math.MaxInt, 0}, math.MaxInt},
		{[]int{math.MaxInt, math.MinInt}, math.MaxInt},
	} {
		if got := event.Latest(ofTimes(q.times...)...); got != q.want {
			t.Errorf("Latest of %v: %d, want %d", q.times, got, q.want)
		}
	}
	if n := event.Latest(); n != -1 {
		t.Error("Latest()", n)
	}
	if n := event.Latest([]api.Event{}...); n != -1 {
		t.Error("Latest of an empty list", n)
	}
	if n := event.Latest(at(4, 255, 99, 9), at(5, 0, -99, 0)); n != 5 {
		t.Error("other fields than Time", n)
	}
}

func TestLatestEach(t *testing.T) {
	for i, a := range ints {
		for k, b := range ints {
			if n := event.Latest(ofTimes(a, b)...); n != ints[max(i, k)] {
				t.Errorf("Latest of %d, %d: %d", a, b, n)
			}
		}
	}
}

func TestLabels(t *testing.T) {
	for _, q := range []struct {
		labels []uint64
		want   uint64
	}{
		{nil, 0},
		{[]uint64{0}, 0},
		{[]uint64{5}, 5},
		{[]uint64{0, 0}, 0},
		{[]uint64{1, 6, 4}, 7},
		{[]uint64{4, 6, 1}, 7},
		{[]uint64{5, 5}, 5},
		{[]uint64{8, 0}, 8},
		{[]uint64{0, 8}, 8},
		{[]uint64{1 << 63, 1}, 1<<63 | 1},
		{[]uint64{math.MaxUint64, 3}, math.MaxUint64},
		{[]uint64{3, math.MaxUint64}, math.MaxUint64},
	} {
		var es []api.Event
		for i, label := range q.labels {
			es = append(es, at(math.MinInt+i, i-1, math.MaxInt-i, label))
		}
		if got := event.Labels(es...); got != q.want {
			t.Errorf("Labels of %x: %x, want %x", q.labels, got, q.want)
		}
	}
	if m := event.Labels(); m != 0 {
		t.Errorf("Labels(): %x", m)
	}
	if m := event.Labels([]api.Event{}...); m != 0 {
		t.Errorf("Labels of an empty list: %x", m)
	}
}

func TestLabelsOfAll64(t *testing.T) {
	var es []api.Event
	for n := range 64 {
		es = append(es, at(n, 0, 0, 1<<n))
		if m := event.Labels(es...); m != math.MaxUint64>>(63-n) {
			t.Errorf("Labels of the first %d: %x", n+1, m)
		}
	}
}

// R2 and R5

func TestRoomBehindIsLeftAlone(t *testing.T) {
	es := []api.Event{at(9, 1, 2, 1), at(4, 3, 4, 2), at(7, 5, 6, 4), at(99, 7, 8, 64), at(98, 9, 10, 128)}
	kept := slices.Clone(es)
	if n := event.Latest(es[:3]...); n != 9 {
		t.Error("Latest reads behind", n)
	}
	if m := event.Labels(es[:3]...); m != 7 {
		t.Errorf("Labels reads behind: %x", m)
	}
	if n := event.Latest(es[:0]...); n != -1 {
		t.Error("Latest of none reads behind", n)
	}
	if m := event.Labels(es[:0]...); m != 0 {
		t.Errorf("Labels of none reads behind: %x", m)
	}
	if !slices.Equal(es, kept) {
		t.Error("changed", es)
	}
}
