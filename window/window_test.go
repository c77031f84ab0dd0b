package window_test

import (
	"math"
	"slices"
	"testing"

	"cordon/api"
	"cordon/window"
)

const (
	mostTime = 1 << 40
	mostSize = 1 << 20
)

// ints holds numbers of all kinds: the ends of int, the ends of narrower kinds, the limits, and their neighbours.
var ints = []int{
	math.MinInt, math.MinInt + 1, -1 << 62, -mostTime - 1, -mostTime, math.MinInt32 - 1, math.MinInt32, -mostSize - 1, -mostSize,
	-9, -8, -7, -2, -1, 0, 1, 2, 3, 4, 7, 8, 9, 10, 63, 64, 65, 255, 256,
	mostSize/8 - 1, mostSize / 8, mostSize/8 + 1, mostSize/2 - 1, mostSize / 2, mostSize - 1, mostSize, mostSize + 1,
	math.MaxInt32, math.MaxInt32 + 1, 1 << 32, 1<<32 + 1, 1<<32 + 8,
	mostTime - 1, mostTime, mostTime + 1, 1 << 62, math.MaxInt - 1, math.MaxInt,
}

type pair struct{ size, slide int }

// rights holds sizes and slides that may be: windows that overlap and that don't, multiples of the slide and others.
var rights = []pair{
	{1, 1}, {2, 1}, {3, 1}, {7, 1}, {8, 1}, {2, 2}, {3, 2}, {4, 2}, {15, 2}, {16, 2}, {4, 3}, {23, 3}, {24, 3},
	{4, 4}, {5, 4}, {7, 4}, {8, 4}, {9, 4}, {10, 4}, {5, 5}, {10, 5}, {11, 5}, {10, 9}, {10, 10}, {17, 10}, {80, 10},
	{100, 13}, {104, 13}, {255, 100}, {256, 32}, {1000, 1000}, {1000, 999}, {1000, 125},
	{mostSize - 1, mostSize - 1}, {mostSize - 1, mostSize / 8}, {mostSize, mostSize / 8}, {mostSize, mostSize/8 + 1},
	{mostSize, mostSize / 2}, {mostSize, mostSize/2 + 1}, {mostSize, mostSize - 1}, {mostSize, mostSize},
}

// wrongs holds sizes and slides that may not be, each for a reason of its own.
var wrongs = []pair{
	{0, 0}, {1, 0}, {8, 0}, {mostSize, 0}, {-1, 0}, {1, -1}, {8, -1}, {-1, -1}, {-8, -8}, {-4, -8}, {10, -5},
	{0, 1}, {-1, 1}, {3, 4}, {4, 5}, {1, 2}, {1, mostSize}, {mostSize - 1, mostSize}, {mostSize, mostSize + 1},
	{mostSize + 1, mostSize}, {mostSize + 1, mostSize + 1}, {mostSize + 1, mostSize / 2}, {mostSize + 8, mostSize/8 + 1},
	{9, 1}, {17, 2}, {25, 3}, {33, 4}, {mostSize, 1}, {mostSize, mostSize/8 - 1}, {mostSize - 7, mostSize/8 - 1},
	{1<<32 + 8, 8}, {8, 1<<32 + 8}, {1<<32 + 8, 1<<32 + 8}, {math.MaxInt, 1}, {math.MaxInt, math.MaxInt}, {math.MaxInt, math.MaxInt / 8},
	{math.MinInt, math.MinInt}, {math.MinInt, -1}, {math.MinInt, 1}, {1, math.MinInt}, {1, math.MaxInt}, {math.MaxInt, math.MinInt}, {math.MinInt, math.MaxInt},
}

// slowPanes counts how many slides it takes to be at the size, or behind it; 0, if these may not be.
func slowPanes(size, slide int) int {
	if slide < 1 || size < slide || size > mostSize {
		return 0
	}
	n := 0
	for at := 0; at < size; at += slide {
		n++
	}
	if n > 8 {
		return 0
	}
	return n
}

// slowStarts tries all windows near a time of 0 to MaxTime, of a size and slide that may be.
func slowStarts(time, size, slide int) []int {
	var starts []int
	for n := time/slide - 20; n <= time/slide+2; n++ {
		start := n * slide
		if start >= 0 && start <= time && time < start+size {
			starts = append(starts, start)
		}
	}
	return starts
}

// timesOf holds times at and around the begins and ends of a pair's windows: at 0, some way on, and at MaxTime.
func timesOf(p pair) []int {
	var times []int
	for _, base := range []int{0, 1, 2, 7, 8, 9, 1000, 1 << 31 / p.slide, 1 << 32 / p.slide, mostTime/p.slide - 9, mostTime / p.slide} {
		start := base * p.slide
		for _, edge := range []int{start, start + p.slide, start + p.size, start - p.slide, start - p.size} {
			times = append(times, edge-1, edge, edge+1)
		}
	}
	times = append(times, 0, 1, p.size-1, p.size, p.size+1, mostTime-1, mostTime)
	return slices.DeleteFunc(times, func(time int) bool { return time < 0 || time > mostTime })
}

func checkStarts(t *testing.T, time, size, slide int, want []int) {
	t.Helper()
	if got := window.Starts(time, size, slide); !slices.Equal(got, want) {
		t.Errorf("Starts(%d, %d, %d): %v; want %v", time, size, slide, got, want)
	}
}

// checkPanes asks Right and Panes alike: 0 says that size and slide aren't right.
func checkPanes(t *testing.T, size, slide, want int) {
	t.Helper()
	if got := window.Panes(size, slide); got != want {
		t.Errorf("Panes(%d, %d): %d; want %d", size, slide, got, want)
	}
	if got := window.Right(size, slide); got != (want > 0) {
		t.Errorf("Right(%d, %d): %v", size, slide, got)
	}
}

func TestRuns(t *testing.T) {
	checkStarts(t, 7, 10, 5, []int{0, 5})
	checkStarts(t, 12, 10, 5, []int{5, 10})
	checkStarts(t, 3, 4, 4, []int{0})
	checkPanes(t, 10, 4, 3)
}

// P6.1

func TestPanesOrdinary(t *testing.T) {
	for _, q := range []struct{ size, slide, want int }{
		{1, 1, 1}, {2, 1, 2}, {7, 1, 7}, {8, 1, 8}, {2, 2, 1}, {3, 2, 2}, {4, 2, 2}, {5, 2, 3},
		{10, 5, 2}, {10, 4, 3}, {12, 4, 3}, {13, 4, 4}, {10, 9, 2}, {10, 10, 1}, {11, 10, 2}, {1000, 125, 8}, {1000, 126, 8}, {1000, 143, 7},
	} {
		checkPanes(t, q.size, q.slide, q.want)
	}
}

func TestSlideEdges(t *testing.T) {
	for _, size := range []int{1, 2, 7, 8} {
		checkPanes(t, size, 1, size)
		checkPanes(t, size, 0, 0)
		checkPanes(t, size, -1, 0)
		checkPanes(t, size, -size, 0)
		checkPanes(t, size, math.MinInt, 0)
	}
	checkPanes(t, 0, 0, 0)
	checkPanes(t, -1, -1, 0)
	checkPanes(t, -8, -2, 0)
}

func TestSizeEdges(t *testing.T) {
	for _, slide := range []int{1, 2, 3, 8, 100, 1 << 16, mostSize/2 - 1, mostSize - 1} {
		checkPanes(t, slide-1, slide, 0)
		checkPanes(t, slide, slide, 1)
		checkPanes(t, slide+1, slide, 2)
	}
	for _, slide := range []int{mostSize / 8, mostSize / 4, mostSize / 2, mostSize} {
		checkPanes(t, mostSize, slide, mostSize/slide)
		checkPanes(t, mostSize+1, slide, 0)
	}
	checkPanes(t, mostSize-1, mostSize, 0)
	checkPanes(t, mostSize, mostSize-1, 2)
	checkPanes(t, mostSize+1, mostSize+1, 0)
	checkPanes(t, mostSize+1, mostSize-1, 0)
}

// TestPanesEdges: just MaxPanes windows are right, the size's last part of a slide counted as one, and one more is not.
func TestPanesEdges(t *testing.T) {
	for _, slide := range []int{1, 2, 3, 4, 7, 8, 9, 125, 1000, mostSize/8 - 1} {
		checkPanes(t, 7*slide, slide, 7)
		checkPanes(t, 7*slide+1, slide, 8)
		checkPanes(t, 8*slide-1, slide, slowPanes(8*slide-1, slide))
		checkPanes(t, 8*slide, slide, 8)
		checkPanes(t, 8*slide+1, slide, 0)
		checkPanes(t, 9*slide, slide, 0)
	}
	checkPanes(t, mostSize, mostSize/8, 8)
	checkPanes(t, mostSize, mostSize/8-1, 0)
	checkPanes(t, mostSize, mostSize/8+1, 8)
}

func TestLimits(t *testing.T) {
	checkPanes(t, api.MaxSize, api.MaxSize, 1)
	checkPanes(t, api.MaxSize+1, api.MaxSize, 0)
	checkPanes(t, api.MaxPanes, 1, api.MaxPanes)
	checkPanes(t, api.MaxPanes+1, 1, 0)
	checkStarts(t, api.MaxTime, 1, 1, []int{api.MaxTime})
	checkStarts(t, api.MaxTime+1, 1, 1, nil)
}

func TestPanesOfLists(t *testing.T) {
	for _, p := range rights {
		want := slowPanes(p.size, p.slide)
		if want == 0 {
			t.Error("not right", p)
		}
		checkPanes(t, p.size, p.slide, want)
	}
	for _, p := range wrongs {
		checkPanes(t, p.size, p.slide, 0)
	}
}

// TestPanesEach lays every number beside every other one, and all small ones.
func TestPanesEach(t *testing.T) {
	for _, size := range ints {
		for _, slide := range ints {
			checkPanes(t, size, slide, slowPanes(size, slide))
		}
	}
	for size := -3; size < 90; size++ {
		for slide := -3; slide < 90; slide++ {
			checkPanes(t, size, slide, slowPanes(size, slide))
		}
	}
}

// TestPanesAreTheMost: no time is in more windows than Panes says, and some time is in as many.
func TestPanesAreTheMost(t *testing.T) {
	for _, p := range rights {
		if p.size > 1000 {
			continue
		}
		most := 0
		for time := range p.size + 2*p.slide {
			most = max(most, len(window.Starts(time, p.size, p.slide)))
		}
		checkPanes(t, p.size, p.slide, most)
	}
}

// P6.2

func TestStartsOrdinary(t *testing.T) {
	for _, q := range []struct {
		time, size, slide int
		want              []int
	}{
		{0, 10, 5, []int{0}}, {4, 10, 5, []int{0}}, {5, 10, 5, []int{0, 5}}, {9, 10, 5, []int{0, 5}}, {10, 10, 5, []int{5, 10}}, {14, 10, 5, []int{5, 10}}, {15, 10, 5, []int{10, 15}},
		{0, 4, 4, []int{0}}, {3, 4, 4, []int{0}}, {4, 4, 4, []int{4}}, {7, 4, 4, []int{4}}, {8, 4, 4, []int{8}},
		{3, 10, 4, []int{0}}, {4, 10, 4, []int{0, 4}}, {8, 10, 4, []int{0, 4, 8}}, {9, 10, 4, []int{0, 4, 8}}, {10, 10, 4, []int{4, 8}}, {12, 10, 4, []int{4, 8, 12}}, {13, 10, 4, []int{4, 8, 12}}, {14, 10, 4, []int{8, 12}},
		{0, 1, 1, []int{0}}, {1, 1, 1, []int{1}}, {99, 1, 1, []int{99}},
		{0, 8, 1, []int{0}}, {6, 8, 1, []int{0, 1, 2, 3, 4, 5, 6}}, {7, 8, 1, []int{0, 1, 2, 3, 4, 5, 6, 7}}, {8, 8, 1, []int{1, 2, 3, 4, 5, 6, 7, 8}},
		{99, 101, 100, []int{0}}, {100, 101, 100, []int{0, 100}}, {101, 101, 100, []int{100}}, {200, 101, 100, []int{100, 200}},
		{mostSize - 1, mostSize, mostSize, []int{0}}, {mostSize, mostSize, mostSize, []int{mostSize}},
		{mostTime, mostSize, mostSize, []int{mostTime}}, {mostTime - 1, mostSize, mostSize, []int{mostTime - mostSize}},
		{mostTime, 8, 4, []int{mostTime - 4, mostTime}}, {mostTime, 9, 4, []int{mostTime - 8, mostTime - 4, mostTime}}, {mostTime - 1, 8, 4, []int{mostTime - 8, mostTime - 4}},
	} {
		checkStarts(t, q.time, q.size, q.slide, q.want)
	}
}

// TestStartsOfNoTime: no time below 0 or above MaxTime is in a window, of no size and slide.
func TestStartsOfNoTime(t *testing.T) {
	for _, p := range rights {
		for _, time := range ints {
			if time < 0 || time > mostTime {
				checkStarts(t, time, p.size, p.slide, nil)
			}
		}
		checkStarts(t, mostTime, p.size, p.slide, slowStarts(mostTime, p.size, p.slide))
		checkStarts(t, 0, p.size, p.slide, []int{0})
	}
}

func TestStartsOfWrongSizes(t *testing.T) {
	for _, p := range wrongs {
		for _, time := range ints {
			checkStarts(t, time, p.size, p.slide, nil)
		}
		checkStarts(t, p.size, p.size, p.slide, nil)
		checkStarts(t, p.slide, p.size, p.slide, nil)
	}
}

// TestStartsAtMostPanes: in just MaxPanes windows there is a time, in one more there is none.
func TestStartsAtMostPanes(t *testing.T) {
	for _, slide := range []int{1, 2, 3, 10, 1000, mostSize / 8} {
		time := 20 * slide
		var want []int
		for n := 13; n <= 20; n++ {
			want = append(want, n*slide)
		}
		checkStarts(t, time, 8*slide, slide, want)
		checkStarts(t, time, 8*slide+1, slide, nil)
	}
}

// TestWindowHasItsTimes: of each window just the times from its begin on, and ahead of its end, are in it.
func TestWindowHasItsTimes(t *testing.T) {
	for _, p := range rights {
		for _, n := range []int{0, 1, 2, 5, 8, 9, 1 << 10, (mostTime - 2*p.size) / p.slide} {
			begin := n * p.slide
			end := begin + p.size
			for _, q := range []struct {
				time int
				want bool
			}{
				{begin - 1, false}, {begin, true}, {begin + (p.size-1)/2, true}, {end - 1, true}, {end, false}, {end + 1, false},
			} {
				if got := slices.Contains(window.Starts(q.time, p.size, p.slide), begin); got != q.want {
					t.Errorf("time %d in the window at %d, of %v: %v", q.time, begin, p, got)
				}
			}
		}
	}
}

// TestStartsOfSmallTimes: below the size every window that has begun is open still.
func TestStartsOfSmallTimes(t *testing.T) {
	for _, p := range rights {
		for _, time := range []int{0, 1, p.slide - 1, p.slide, p.slide + 1, p.size - p.slide, p.size / 2, p.size - 1} {
			if time >= p.size {
				continue
			}
			var want []int
			for start := 0; start <= time; start += p.slide {
				want = append(want, start)
			}
			checkStarts(t, time, p.size, p.slide, want)
		}
	}
}

func TestStartsEach(t *testing.T) {
	for _, p := range rights {
		for _, time := range timesOf(p) {
			checkStarts(t, time, p.size, p.slide, slowStarts(time, p.size, p.slide))
		}
	}
	for slide := 1; slide < 20; slide++ {
		for size := slide; size <= 8*slide; size++ {
			for time := range 2*size + 3 {
				checkStarts(t, time, size, slide, slowStarts(time, size, slide))
			}
		}
	}
}

func TestStartsRise(t *testing.T) {
	for _, p := range rights {
		for _, time := range timesOf(p) {
			starts := window.Starts(time, p.size, p.slide)
			if len(starts) == 0 {
				t.Errorf("time %d is in no window of %v", time, p)
			}
			for i := 1; i < len(starts); i++ {
				if starts[i] <= starts[i-1] {
					t.Errorf("time %d, %v: %v", time, p, starts)
				}
			}
		}
	}
}

// P6.3

func TestLast(t *testing.T) {
	for _, q := range []struct {
		size   int
		starts []int
		want   int
	}{
		{10, []int{0}, 10}, {10, []int{5}, 15}, {1, []int{0}, 1}, {0, []int{7}, 7}, {5, []int{-7}, -2}, {-3, []int{7}, 4}, {0, []int{0}, 0},
		{10, []int{0, 5}, 15}, {10, []int{5, 0}, 15}, {5, []int{3, 9, 4}, 14}, {5, []int{9, 3, 4}, 14}, {5, []int{3, 4, 9}, 14},
		{4, []int{8, 8, 8}, 12}, {4, []int{2, 8, 8}, 12}, {4, []int{-9, -3, -5}, 1}, {4, []int{-3, -9}, 1}, {4, []int{0, -3}, 4},
		{mostSize, []int{mostTime}, mostTime + mostSize}, {mostSize, []int{0, mostTime, 1 << 32}, mostTime + mostSize}, {1, []int{1<<32 + 1, 2}, 1<<32 + 2},
		{0, []int{math.MaxInt}, math.MaxInt}, {0, []int{math.MinInt}, math.MinInt}, {1, []int{math.MaxInt - 1}, math.MaxInt}, {-1, []int{math.MinInt + 1}, math.MinInt},
		{math.MinInt, []int{math.MaxInt}, -1}, {math.MaxInt, []int{math.MinInt}, -1}, {math.MaxInt, []int{0}, math.MaxInt}, {math.MinInt, []int{0}, math.MinInt},
		// At the ends of int a difference would go round.
		{0, []int{math.MinInt, math.MaxInt}, math.MaxInt}, {0, []int{math.MaxInt, math.MinInt}, math.MaxInt}, {7, []int{math.MinInt, 1, math.MinInt + 1}, 8},
	} {
		if got := window.Last(q.size, q.starts...); got != q.want {
			t.Errorf("Last(%d, %v): %d; want %d", q.size, q.starts, got, q.want)
		}
	}
}

func TestLastOfNone(t *testing.T) {
	for _, size := range ints {
		if n := window.Last(size); n != 0 {
			t.Errorf("Last(%d): %d", size, n)
		}
		if n := window.Last(size, []int{}...); n != 0 {
			t.Errorf("Last(%d) of an empty list: %d", size, n)
		}
	}
}

// TestLastInAnyOrder lays the greatest into each place of lists of each length.
func TestLastInAnyOrder(t *testing.T) {
	for size := 1; size <= 9; size++ {
		for place := range size {
			starts := make([]int, size)
			for i := range starts {
				starts[i] = i * 7 % 5 * 10
			}
			starts[place] = 99
			if n := window.Last(30, starts...); n != 129 {
				t.Errorf("Last of %v: %d", starts, n)
			}
		}
	}
}

// TestLastEndsAtAnyNumbers: a sum that has no room is no reason to panic.
func TestLastEndsAtAnyNumbers(t *testing.T) {
	for _, size := range ints {
		for _, start := range ints {
			window.Last(size, start)
			window.Last(size, start, 0)
		}
	}
}

// TestLastIsBehindAll: Last of a time's windows is in none of them, and the time ahead of it is in the last one.
func TestLastIsBehindAll(t *testing.T) {
	for _, p := range rights {
		for _, time := range timesOf(p) {
			starts := window.Starts(time, p.size, p.slide)
			last := window.Last(p.size, starts...)
			if last > mostTime {
				continue
			}
			for _, start := range starts {
				if slices.Contains(window.Starts(last, p.size, p.slide), start) {
					t.Errorf("%d is in the window at %d, of %v", last, start, p)
				}
			}
			if !slices.Contains(window.Starts(last-1, p.size, p.slide), starts[len(starts)-1]) {
				t.Errorf("%d isn't in the last of %v, of %v", last-1, starts, p)
			}
		}
	}
}

// P6.4

// checkNextSlide: the windows of the next slide's time are those of this one, each a slide on.
func checkNextSlide(t *testing.T, time int, p pair) {
	t.Helper()
	here, next := window.Starts(time, p.size, p.slide), window.Starts(time+p.slide, p.size, p.slide)
	if len(here) == 0 || len(here) != len(next) {
		t.Errorf("time %d, %v: %v, then %v", time, p, here, next)
		return
	}
	for i := range here {
		if next[i]-here[i] != p.slide {
			t.Errorf("time %d, %v: %v, then %v", time, p, here, next)
		}
	}
}

func TestNextSlideHasAsMany(t *testing.T) {
	for _, p := range rights {
		for _, time := range timesOf(p) {
			if time >= p.size && time+p.slide <= mostTime {
				checkNextSlide(t, time, p)
			}
		}
		checkNextSlide(t, p.size, p)
		checkNextSlide(t, mostTime-p.slide, p)
	}
	for slide := 1; slide < 16; slide++ {
		for size := slide; size <= 8*slide; size++ {
			for time := size; time < 2*size+2; time++ {
				checkNextSlide(t, time, pair{size, slide})
			}
		}
	}
}

// TestFewerAtFirst: a time that is a slide or more below the size is in one window fewer than the next slide's one.
func TestFewerAtFirst(t *testing.T) {
	for _, p := range rights {
		for _, time := range []int{0, 1, p.slide - 1, p.slide, p.size - p.slide - 1} {
			if time < 0 || time+p.slide >= p.size {
				continue
			}
			here, next := window.Starts(time, p.size, p.slide), window.Starts(time+p.slide, p.size, p.slide)
			if len(next) != len(here)+1 {
				t.Errorf("time %d, %v: %v, then %v", time, p, here, next)
			}
		}
	}
}

// R2 and R5

func TestAnswersAreNew(t *testing.T) {
	first := window.Starts(12, 10, 4)
	second := window.Starts(12, 10, 4)
	for i := range first[:cap(first)] {
		first[:cap(first)][i] = -5
	}
	if !slices.Equal(second, []int{4, 8, 12}) {
		t.Error("shared", second)
	}
	checkStarts(t, 12, 10, 4, []int{4, 8, 12})
}

func TestRoomBehindIsLeftAlone(t *testing.T) {
	starts := []int{9, 4, 7, 20, 1}
	kept := slices.Clone(starts)
	if n := window.Last(5, starts[:3]...); n != 14 {
		t.Error("Last reads behind", n)
	}
	if n := window.Last(5, starts[3:3]...); n != 0 {
		t.Error("Last of none reads behind", n)
	}
	if !slices.Equal(starts, kept) {
		t.Error("changed", starts)
	}
}
