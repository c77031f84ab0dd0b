package clock_test

import (
	"math"
	"slices"
	"testing"

	"cordon/api"
	"cordon/clock"
)

const mostMark = 1<<40 + 1<<20

// at makes a clock at a mark, with nothing seen.
func at(mark int) clock.Clock {
	var c clock.Clock
	c.Advance(mark)
	return c
}

func ofMarks(marks ...int) []clock.Clock {
	var cs []clock.Clock
	for _, mark := range marks {
		cs = append(cs, at(mark))
	}
	return cs
}

func check(t *testing.T, what any, c clock.Clock, mark, late, seen int) {
	t.Helper()
	if c.Mark() != mark || c.Late() != late || c.Seen() != seen {
		t.Errorf("%v: mark %d, late %d, seen %d; want %d, %d, %d", what, c.Mark(), c.Late(), c.Seen(), mark, late, seen)
	}
}

// ints holds numbers of all kinds: the ends of int, the limits, and their neighbours.
var ints = []int{
	math.MinInt, math.MinInt + 1, -mostMark, -1 << 40, math.MinInt32, -2, -1,
	0, 1, 2, 3, 99, 100, 101, math.MaxInt32, math.MaxInt32 + 1, 1 << 32, 1<<32 + 1,
	1<<40 - 1, 1 << 40, 1<<40 + 1, 1<<40 + 2, mostMark - 1, mostMark, mostMark + 1, 1 << 41, math.MaxInt - 1, math.MaxInt,
}

func TestRuns(t *testing.T) {
	var c clock.Clock
	if !c.Advance(5) {
		t.Error("Advance(5)")
	}
	if c.On(4) {
		t.Error("On(4)")
	}
	if !c.On(5) {
		t.Error("On(5)")
	}
	if c.Late() != 1 || c.Seen() != 2 {
		t.Error("Late, Seen", c.Late(), c.Seen())
	}
	if c.Advance(5) {
		t.Error("Advance(5) again")
	}
	check(t, "behind the runs", c, 5, 1, 2)
}

// P4.1

func TestOnOrdinary(t *testing.T) {
	c := at(100)
	late := 0
	for i, q := range []struct {
		time int
		want bool
	}{
		{100, true}, {99, false}, {101, true}, {5000, true}, {100, true}, {0, false}, {1, false},
		{98, false}, {102, true}, {99, false}, {1 << 40, true}, {101, true},
	} {
		if got := c.On(q.time); got != q.want {
			t.Errorf("On(%d): %v", q.time, got)
		}
		if !q.want {
			late++
		}
		check(t, q.time, c, 100, late, i+1)
	}
}

// TestOnOfZeroClock: at mark 0, no time that may be is late.
func TestOnOfZeroClock(t *testing.T) {
	var c clock.Clock
	check(t, "zero", c, 0, 0, 0)
	for i, time := range []int{0, 1, 0, 7, 3, 1 << 40, 0} {
		if !c.On(time) {
			t.Error("On", time)
		}
		check(t, time, c, 0, 0, i+1)
	}
}

// TestOnEach lays every time against every mark.
func TestOnEach(t *testing.T) {
	for _, mark := range ints {
		if mark < 0 || mark > mostMark {
			continue
		}
		for _, time := range ints {
			c := at(mark)
			mayBe := time > -1 && time < 1<<40+1
			want := mayBe && time >= mark
			if c.On(time) != want {
				t.Errorf("On(%d) at mark %d: %v", time, mark, !want)
			}
			switch {
			case !mayBe:
				check(t, time, c, mark, 0, 0)
			case want:
				check(t, time, c, mark, 0, 1)
			default:
				check(t, time, c, mark, 1, 1)
			}
		}
	}
}

func TestOnOfNoTimeChangesNothing(t *testing.T) {
	c := at(100)
	c.On(3)
	c.On(4)
	c.On(100)
	before := c
	for _, time := range []int{-1, -2, math.MinInt, 1<<40 + 1, mostMark, math.MaxInt} {
		if c.On(time) {
			t.Error("On", time)
		}
		if c != before {
			t.Error("On changes", time)
		}
		check(t, time, c, 100, 2, 3)
	}
}

func TestAdvanceOrdinary(t *testing.T) {
	var c clock.Clock
	for _, q := range []struct {
		time, mark int
		want       bool
	}{
		{0, 0, false}, {-1, 0, false}, {5, 5, true}, {5, 5, false}, {4, 5, false}, {6, 6, true}, {0, 6, false},
		{-7, 6, false}, {1000, 1000, true}, {999, 1000, false}, {1001, 1001, true},
		{mostMark + 1, 1001, false}, {math.MaxInt, 1001, false}, {math.MinInt, 1001, false},
		{1 << 40, 1 << 40, true}, {1<<40 + 1, 1<<40 + 1, true}, {1 << 40, 1<<40 + 1, false},
		{mostMark - 1, mostMark - 1, true}, {mostMark + 1, mostMark - 1, false}, {mostMark, mostMark, true},
		{mostMark, mostMark, false}, {mostMark + 1, mostMark, false}, {0, mostMark, false},
	} {
		if got := c.Advance(q.time); got != q.want {
			t.Errorf("Advance(%d): %v", q.time, got)
		}
		check(t, q.time, c, q.mark, 0, 0)
	}
}

// TestAdvanceEach lays every time against every mark; what was counted stays.
func TestAdvanceEach(t *testing.T) {
	for _, mark := range ints {
		if mark < 1 || mark > mostMark {
			continue
		}
		for _, time := range ints {
			c := at(mark)
			c.On(0)
			late, seen := c.Late(), c.Seen()
			want := time > mark && time < mostMark+1
			if c.Advance(time) != want {
				t.Errorf("Advance(%d) at mark %d: %v", time, mark, !want)
			}
			if want {
				check(t, time, c, time, late, seen)
			} else {
				check(t, time, c, mark, late, seen)
			}
		}
	}
}

func TestGreatestMarkIsOfTheLimits(t *testing.T) {
	var c clock.Clock
	if c.Advance(api.MaxTime+api.MaxSize+1) || !c.Advance(api.MaxTime+api.MaxSize) {
		t.Error("greatest mark", c.Mark())
	}
	if c.On(api.MaxTime) {
		t.Error("On(MaxTime) at the greatest mark")
	}
	check(t, "greatest", c, mostMark, 1, 1)
}

// TestLateIsByTheMarkThen: what was in time stays so when the mark goes on, and what was late stays late.
func TestLateIsByTheMarkThen(t *testing.T) {
	var c clock.Clock
	for i := range 50 {
		if !c.On(i) {
			t.Error("in time", i)
		}
		if !c.Advance(i + 1) {
			t.Error("Advance", i+1)
		}
		if c.On(i) {
			t.Error("late", i)
		}
		check(t, i, c, i+1, i+1, 2*i+2)
	}
}

// P4.2

func TestCounts(t *testing.T) {
	c := at(10)
	for i := range 1000 {
		c.On(i % 20)
	}
	check(t, "1000", c, 10, 500, 1000)
}

func TestAskingChangesNothing(t *testing.T) {
	c := at(10)
	c.On(3)
	c.On(30)
	before := c
	for range 3 {
		check(t, "asked", c, 10, 1, 2)
		clock.First(c)
	}
	if c != before {
		t.Error("changed", c, before)
	}
}

func TestFirst(t *testing.T) {
	for _, q := range []struct {
		marks []int
		want  int
	}{
		{nil, 0},
		{[]int{0}, 0},
		{[]int{4}, 4},
		{[]int{mostMark}, mostMark},
		{[]int{3, 7, 9}, 3},
		{[]int{7, 3, 9}, 3},
		{[]int{9, 7, 3}, 3},
		{[]int{9, 3, 7}, 3},
		{[]int{5, 5}, 5},
		{[]int{5, 5, 6, 5}, 5},
		{[]int{0, 4}, 0},
		{[]int{4, 0}, 0},
		{[]int{4, 0, 7}, 0},
		{[]int{mostMark, mostMark - 1, mostMark}, mostMark - 1},
		{[]int{1 << 40, 1 << 33, 1 << 32}, 1 << 32},
		{[]int{1<<32 + 1, 2}, 2},
	} {
		if got := clock.First(ofMarks(q.marks...)...); got != q.want {
			t.Errorf("First of %v: %d, want %d", q.marks, got, q.want)
		}
	}
	if n := clock.First(); n != 0 {
		t.Error("First()", n)
	}
	if n := clock.First([]clock.Clock{}...); n != 0 {
		t.Error("First of an empty list", n)
	}
}

// TestFirstIsOfMarksAlone: counts say the opposite of the marks.
func TestFirstIsOfMarksAlone(t *testing.T) {
	busy, idle := at(4), at(9)
	for range 20 {
		busy.On(0)
		busy.On(8)
	}
	if n := clock.First(busy, idle); n != 4 {
		t.Error("First(busy, idle)", n)
	}
	if n := clock.First(idle, busy); n != 4 {
		t.Error("First(idle, busy)", n)
	}
}

// P4.3

// TestMarkNeverFalls does all that can be done to a clock, in many orders.
func TestMarkNeverFalls(t *testing.T) {
	for step := 1; step < 60; step++ {
		var c clock.Clock
		most := 0
		for i := range 400 {
			time := ints[i*step%len(ints)] - i%3
			if i%2 == 0 {
				c.On(time)
			} else if c.Advance(time) {
				most = time
			}
			if c.Mark() < most {
				t.Fatalf("step %d, turn %d: from %d to %d", step, i, most, c.Mark())
			}
			if c.Mark() != most {
				t.Fatalf("step %d, turn %d: %d, want %d", step, i, c.Mark(), most)
			}
		}
	}
}

// Ways: a Clock is a value, and others embed it.

func TestCopyGoesOnByItself(t *testing.T) {
	c := at(10)
	c.On(3)
	d := c
	if d != c {
		t.Error("not the same")
	}
	d.Advance(20)
	d.On(15)
	d.On(25)
	check(t, "original", c, 10, 1, 1)
	check(t, "copy", d, 20, 2, 3)
	c.Advance(12)
	c.On(12)
	check(t, "original", c, 12, 1, 2)
	check(t, "copy", d, 20, 2, 3)
}

type station struct {
	clock.Clock
	name string
}

func TestEmbedded(t *testing.T) {
	s := station{name: "north"}
	check(t, "zero", s.Clock, 0, 0, 0)
	if !s.On(0) || !s.Advance(5) || s.On(4) || !s.On(5) || s.Advance(5) {
		t.Error("promoted", s)
	}
	if s.Mark() != 5 || s.Late() != 1 || s.Seen() != 3 || s.name != "north" {
		t.Error("promoted", s)
	}
	other := s
	other.Advance(9)
	other.On(1)
	check(t, "original", s.Clock, 5, 1, 3)
	check(t, "copy", other.Clock, 9, 2, 4)
	if n := clock.First(other.Clock, s.Clock); n != 5 {
		t.Error("First", n)
	}
}

// R2 and R5

func TestRoomBehindIsLeftAlone(t *testing.T) {
	cs := ofMarks(9, 4, 7, 2, 1)
	kept := slices.Clone(cs)
	if n := clock.First(cs[:3]...); n != 4 {
		t.Error("First reads behind", n)
	}
	if n := clock.First(cs[3:3]...); n != 0 {
		t.Error("First of none reads behind", n)
	}
	if !slices.Equal(cs, kept) {
		t.Error("changed", cs)
	}
}
