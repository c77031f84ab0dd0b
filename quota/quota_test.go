package quota_test

import (
	"math"
	"math/big"
	"slices"
	"testing"

	"cordon/quota"
)

// ints holds numbers of all kinds: the ends of int, and numbers around those that count here.
var ints = []int{
	math.MinInt, math.MinInt + 1, -1 << 62, -1<<62 + 1, -1 << 32, math.MinInt32, -4001, -9, -3, -2, -1,
	0, 1, 2, 3, 4, 5, 8, 255, 256, 3999, 4000, 4001, math.MaxInt32, math.MaxInt32 + 1, math.MaxUint32, 1 << 32, 1<<32 + 1, 1 << 53,
	1<<62 - 1, 1 << 62, 1<<62 + 1, math.MaxInt - 2, math.MaxInt - 1, math.MaxInt,
}

// withoutRoom holds lists, none below 0, whose sum has no room in an int; next to some it says what it goes round to.
var withoutRoom = [][]int{
	{math.MaxInt, 1},                                           // the least int
	{math.MaxInt, math.MaxInt},                                 // -2
	{math.MaxInt, math.MaxInt, 1},                              // -1
	{math.MaxInt, math.MaxInt, 2},                              // 0
	{math.MaxInt, math.MaxInt, 3},                              // 1
	{math.MaxInt, math.MaxInt, 4},                              // 2
	{math.MaxInt, math.MaxInt, math.MaxInt, 3},                 // 0 and the greatest int
	{math.MaxInt, math.MaxInt, math.MaxInt, math.MaxInt, 4},    // 0, round twice
	{math.MaxInt, math.MaxInt, math.MaxInt, math.MaxInt, 5, 0}, // 1, round twice
	{1 << 62, 1 << 62},                                         // the least int
	{1 << 62, 1 << 62, 1 << 62, 1 << 62},                       // 0
	{1 << 62, 1 << 62, 1 << 62, 1 << 62, 1},                    // 1
	{1 << 62, 1 << 62, 1 << 62, 1<<62 + 2, 0, 1},               // 3
	{1<<62 - 1, 1 << 62, 1},
	{math.MaxInt - 1, 1, 1},
	{math.MaxInt - 1, 2},
	{math.MaxInt - 3, 1, 1, 1, 1},
	{math.MaxInt, 0, 1},
	{5, math.MaxInt},
	{1, 1, math.MaxInt - 1},
}

// counted is what tells counts: a Quota, a pointer to one, and types that embed one.
type counted interface {
	Left() int
	Spent() int
	Refused() int
}

// holds asks for all three counts.
func holds(t *testing.T, what any, q counted, left, spent, refused int) {
	t.Helper()
	// Asked twice: to be told changes nothing.
	for range 2 {
		if q.Left() != left || q.Spent() != spent || q.Refused() != refused {
			t.Errorf("%v: left %d, spent %d, refused %d; want %d, %d, %d", what, q.Left(), q.Spent(), q.Refused(), left, spent, refused)
		}
	}
}

// spends asks that ns are spent, and all counts before and behind.
func spends(t *testing.T, what any, q *quota.Quota, left, spent, refused, all int, ns ...int) {
	t.Helper()
	holds(t, what, q, left, spent, refused)
	if !q.Spend(ns...) {
		t.Errorf("%v: Spend(%v) of %d is false", what, ns, left)
	}
	holds(t, what, q, left-all, spent+all, refused)
}

// refuses asks that ns aren't spent, and one more is refused, and all counts before and behind.
func refuses(t *testing.T, what any, q *quota.Quota, left, spent, refused int, ns ...int) {
	t.Helper()
	holds(t, what, q, left, spent, refused)
	if q.Spend(ns...) {
		t.Errorf("%v: Spend(%v) of %d is true", what, ns, left)
	}
	holds(t, what, q, left, spent, refused+1)
}

// used makes a quota of which so much was spent, and so many refused.
func used(left, spent, refused int) quota.Quota {
	q := quota.Of(left + spent)
	q.Spend(spent)
	for range refused {
		q.Refuse()
	}
	return q
}

// allOf adds up without a bound; none below 0 says if one is.
func allOf(ns []int) (all *big.Int, noneBelow bool) {
	all, noneBelow = new(big.Int), true
	for _, n := range ns {
		all.Add(all, big.NewInt(int64(n)))
		noneBelow = noneBelow && n >= 0
	}
	return all, noneBelow
}

// follows asks that Spend does what allOf says of ns.
func follows(t *testing.T, what any, q *quota.Quota, ns ...int) {
	t.Helper()
	left, spent, refused := q.Left(), q.Spent(), q.Refused()
	all, noneBelow := allOf(ns)
	if noneBelow && all.Cmp(big.NewInt(int64(left))) <= 0 {
		spends(t, what, q, left, spent, refused, int(all.Int64()), ns...)
	} else {
		refuses(t, what, q, left, spent, refused, ns...)
	}
}

// orders tells all orders in which ns can stand.
func orders(ns []int) [][]int {
	if len(ns) < 2 {
		return [][]int{slices.Clone(ns)}
	}
	var all [][]int
	for i := range ns {
		for _, others := range orders(slices.Concat(ns[:i], ns[i+1:])) {
			all = append(all, append(others, ns[i]))
		}
	}
	return all
}

// numbers tells numbers that look like chance, the same ones for a seed.
func numbers(seed uint64) func(n int) int {
	return func(n int) int {
		seed = seed*6364136223846793005 + 1442695040888963407
		return int(seed >> 33 % uint64(n))
	}
}

func TestRuns(t *testing.T) {
	q := quota.Of(5)
	holds(t, "Of(5)", q, 5, 0, 0)
	if !q.Spend(2, 1) {
		t.Error("Spend(2, 1)")
	}
	holds(t, "Spend(2, 1)", q, 2, 3, 0)
	if q.Spend(3) {
		t.Error("Spend(3)")
	}
	holds(t, "Spend(3)", q, 2, 3, 1)
}

// P14.1: Of

func TestOf(t *testing.T) {
	for _, o := range []struct{ most, left int }{
		{0, 0}, {1, 1}, {2, 2}, {5, 5}, {4000, 4000}, {4001, 4001}, {math.MaxInt32, 2147483647}, {math.MaxInt32 + 1, 2147483648},
		{1 << 32, 1 << 32}, {1<<32 + 1, 1<<32 + 1}, {1 << 62, 1 << 62}, {math.MaxInt - 1, math.MaxInt - 1}, {math.MaxInt, math.MaxInt},
		{-1, 0}, {-2, 0}, {-5, 0}, {-4000, 0}, {math.MinInt32, 0}, {-1 << 32, 0}, {-1<<32 + 1, 0}, {-1 << 62, 0}, {math.MinInt + 1, 0}, {math.MinInt, 0},
	} {
		holds(t, o.most, quota.Of(o.most), o.left, 0, 0)
	}
}

// TestOfIsAllThatMayBeSpent: just as much as it says, and no more.
func TestOfIsAllThatMayBeSpent(t *testing.T) {
	for _, most := range ints {
		left := most
		if most < 0 {
			left = 0
		}
		q := quota.Of(most)
		if left < math.MaxInt {
			refuses(t, most, &q, left, 0, 0, left+1)
		} else {
			refuses(t, most, &q, left, 0, 0, left, 1)
		}
		spends(t, most, &q, left, 0, 1, left, left)
		refuses(t, most, &q, 0, left, 1, 1)
		refuses(t, most, &q, 0, left, 2, math.MaxInt)
		refuses(t, most, &q, 0, left, 3, -1)
		spends(t, most, &q, 0, left, 4, 0, 0)
		spends(t, most, &q, 0, left, 4, 0)
	}
}

// TestOfBelowZero: it isn't that the first ones make up for what is below.
func TestOfBelowZero(t *testing.T) {
	for _, most := range []int{0, -1, -2, -7, math.MinInt32, -1 << 62, math.MinInt + 1, math.MinInt} {
		q := quota.Of(most)
		refuses(t, most, &q, 0, 0, 0, 1)
		refuses(t, most, &q, 0, 0, 1, -1)
		refuses(t, most, &q, 0, 0, 2, most, 1)
		refuses(t, most, &q, 0, 0, 3, math.MaxInt)
		refuses(t, most, &q, 0, 0, 4, math.MaxInt, math.MaxInt, 2)
		spends(t, most, &q, 0, 0, 5, 0)
		spends(t, most, &q, 0, 0, 5, 0, 0, 0, 0)
		q.Refuse()
		holds(t, most, q, 0, 0, 6)
	}
}

// TestOfEachByItself: what is done to one is in none that is made ahead or later.
func TestOfEachByItself(t *testing.T) {
	ahead := quota.Of(9)
	q := quota.Of(9)
	q.Spend(4)
	q.Spend(6)
	holds(t, "ahead", ahead, 9, 0, 0)
	holds(t, "later", quota.Of(9), 9, 0, 0)
	holds(t, "used", q, 5, 4, 1)
}

// TestZeroValue: a Quota that nothing made has nothing left.
func TestZeroValue(t *testing.T) {
	var q quota.Quota
	holds(t, "zero", q, 0, 0, 0)
	spends(t, "none", &q, 0, 0, 0, 0)
	spends(t, "0", &q, 0, 0, 0, 0, 0)
	refuses(t, "1", &q, 0, 0, 0, 1)
	refuses(t, "-1", &q, 0, 0, 1, -1)
	refuses(t, "round", &q, 0, 0, 2, math.MaxInt, math.MaxInt, 2)
	q.Refuse()
	holds(t, "refused", q, 0, 0, 4)
	fresh := new(quota.Quota)
	fresh.Refuse()
	holds(t, "new", fresh, 0, 0, 1)
}

// P14.1: Spend

// TestSpendOfNone is true, whatever is left, and changes nothing.
func TestSpendOfNone(t *testing.T) {
	for _, most := range ints {
		q := quota.Of(most)
		left := q.Left()
		spends(t, most, &q, left, 0, 0, 0)
		spends(t, most, &q, left, 0, 0, 0, nil...)
		spends(t, most, &q, left, 0, 0, 0, []int{}...)
		q.Spend(left)
		q.Refuse()
		spends(t, most, &q, 0, left, 1, 0)
		spends(t, most, &q, 0, left, 1, 0, nil...)
		spends(t, most, &q, 0, left, 1, 0, make([]int, 0, 9)...)
	}
}

// TestSpendOfOne lays every number against every one that is left, something spent ahead or nothing.
func TestSpendOfOne(t *testing.T) {
	for _, left := range ints {
		for _, spent := range []int{0, 1, 7, 4000, 1 << 62} {
			if left < 0 || left > math.MaxInt-spent {
				continue
			}
			for _, n := range ints {
				q := used(left, spent, 2)
				if n >= 0 && n <= left {
					spends(t, [3]int{left, spent, n}, &q, left, spent, 2, n, n)
				} else {
					refuses(t, [3]int{left, spent, n}, &q, left, spent, 2, n)
				}
			}
		}
	}
}

// TestSpendOfOneAndOne goes over all small numbers.
func TestSpendOfOneAndOne(t *testing.T) {
	for left := range 12 {
		for first := -3; first < 16; first++ {
			for second := -3; second < 16; second++ {
				what := [3]int{left, first, second}
				q := used(left, 3, 1)
				if first >= 0 && second >= 0 && first+second <= left {
					spends(t, what, &q, left, 3, 1, first+second, first, second)
				} else {
					refuses(t, what, &q, left, 3, 1, first, second)
				}
			}
		}
	}
}

// TestSpendOfSeveral goes over all lists of one to five numbers of -1 to 4.
func TestSpendOfSeveral(t *testing.T) {
	for count := 1; count <= 5; count++ {
		ns := slices.Repeat([]int{-1}, count)
		for done := false; !done; {
			all := sum(ns)
			for left := range 10 {
				q := used(left, 2, 0)
				if slices.Min(ns) >= 0 && all <= left {
					spends(t, left, &q, left, 2, 0, all, ns...)
				} else {
					refuses(t, left, &q, left, 2, 0, ns...)
				}
			}
			if t.Failed() {
				t.FailNow()
			}
			done = countOn(ns, -1, 4)
		}
	}
}

// countOn makes the next list of numbers from least to most; true, if that was the last one.
func countOn(ns []int, least, most int) bool {
	for i := range ns {
		if ns[i] < most {
			ns[i]++
			return false
		}
		ns[i] = least
	}
	return true
}

// TestSpendWrittenOut: lists and what comes of them, one behind another on one quota.
func TestSpendWrittenOut(t *testing.T) {
	q := quota.Of(20)
	spends(t, 1, &q, 20, 0, 0, 6, 1, 2, 3)
	refuses(t, 2, &q, 14, 6, 0, 15)
	refuses(t, 3, &q, 14, 6, 1, 7, 7, 1)
	spends(t, 4, &q, 14, 6, 2, 10, 0, 10, 0)
	refuses(t, 5, &q, 4, 16, 2, 5, -1)
	refuses(t, 6, &q, 4, 16, 3, 4, 0, 1)
	spends(t, 7, &q, 4, 16, 4, 3, 3)
	spends(t, 8, &q, 1, 19, 4, 0)
	spends(t, 9, &q, 1, 19, 4, 0, 0, 0)
	refuses(t, 10, &q, 1, 19, 4, 2)
	spends(t, 11, &q, 1, 19, 5, 1, 1)
	refuses(t, 12, &q, 0, 20, 5, 1)
	q.Refuse()
	holds(t, 13, q, 0, 20, 7)
}

// TestSpendJustWhatIsLeft: in one piece, in two at each place, one by one; and then nothing is left.
func TestSpendJustWhatIsLeft(t *testing.T) {
	for left := 1; left < 40; left++ {
		whole := used(left, 5, 0)
		spends(t, left, &whole, left, 5, 0, left, left)
		refuses(t, left, &whole, 0, left+5, 0, 1)
		for first := range left + 1 {
			q := used(left, 5, 0)
			spends(t, [2]int{left, first}, &q, left, 5, 0, left, first, left-first)
			refuses(t, [2]int{left, first}, &q, 0, left+5, 0, 1)
		}
		ones := used(left, 5, 0)
		spends(t, left, &ones, left, 5, 0, left, slices.Repeat([]int{1}, left)...)
		refuses(t, left, &ones, 0, left+5, 0, 1)
	}
}

// TestSpendOneMoreThanIsLeft: in one piece, in two and in three at each place, one by one; and all stays left.
func TestSpendOneMoreThanIsLeft(t *testing.T) {
	for left := range 40 {
		refused := 0
		q := used(left, 5, 0)
		none := func(ns ...int) {
			t.Helper()
			refuses(t, left, &q, left, 5, refused, ns...)
			refused++
		}
		none(left + 1)
		for first := range left + 2 {
			none(first, left+1-first)
			none(first, 0, left+1-first)
			none(0, first, left+1-first, 0)
		}
		for first := range left + 1 {
			none(first, 1, left-first)
		}
		none(slices.Repeat([]int{1}, left+1)...)
		spends(t, left, &q, left, 5, refused, left, left)
	}
}

// TestSpendAroundGreatLefts: just as much, one less and one more than the greatest that can be left.
func TestSpendAroundGreatLefts(t *testing.T) {
	for _, left := range []int{math.MaxInt32, math.MaxInt32 + 1, math.MaxUint32, 1 << 32, 1 << 53, 1<<53 + 1, 1<<62 - 1, 1 << 62, 1<<62 + 1, math.MaxInt - 1, math.MaxInt} {
		half := left / 2
		for _, ns := range [][]int{{left}, {left - 1, 1}, {1, left - 1}, {half, left - half}, {0, half, 0, left - half}, {left - 3, 1, 1, 1}} {
			q := quota.Of(left)
			spends(t, left, &q, left, 0, 0, left, ns...)
			less := slices.Clone(ns)
			less[slices.Index(ns, slices.Max(ns))]--
			q = quota.Of(left)
			spends(t, left, &q, left, 0, 0, left-1, less...)
			refuses(t, left, &q, 1, left-1, 0, 2)
			refuses(t, left, &q, 1, left-1, 1, 1, 1)
			q = quota.Of(left)
			refuses(t, left, &q, left, 0, 0, append(slices.Clone(ns), 1)...)
			refuses(t, left, &q, left, 0, 1, append([]int{1}, ns...)...)
		}
	}
}

// TestSpendTheGreatestMost step by step: what is spent is as great as an int can be, and no sum goes round.
func TestSpendTheGreatestMost(t *testing.T) {
	q := quota.Of(math.MaxInt)
	spends(t, 1, &q, math.MaxInt, 0, 0, 1<<62, 1<<62)
	refuses(t, 2, &q, 1<<62-1, 1<<62, 0, 1<<62)
	refuses(t, 3, &q, 1<<62-1, 1<<62, 1, math.MaxInt)
	refuses(t, 4, &q, 1<<62-1, 1<<62, 2, 1<<62-1, 1)
	spends(t, 5, &q, 1<<62-1, 1<<62, 3, 1<<62-2, 1<<62-2)
	refuses(t, 6, &q, 1, math.MaxInt-1, 3, 2)
	refuses(t, 7, &q, 1, math.MaxInt-1, 4, math.MaxInt, math.MaxInt, 3)
	spends(t, 8, &q, 1, math.MaxInt-1, 5, 1, 1)
	refuses(t, 9, &q, 0, math.MaxInt, 5, 1)
	refuses(t, 10, &q, 0, math.MaxInt, 6, math.MaxInt)
	refuses(t, 11, &q, 0, math.MaxInt, 7, math.MinInt)
	spends(t, 12, &q, 0, math.MaxInt, 8, 0, 0)
	spends(t, 13, &q, 0, math.MaxInt, 8, 0)
}

// TestSpendOfZeros is true, and changes nothing, of however many.
func TestSpendOfZeros(t *testing.T) {
	for _, left := range []int{0, 1, 2, 5, 4000, math.MaxInt - 9} {
		for _, count := range []int{1, 2, 3, 8, 100, 10_000} {
			q := used(left, 9, 3)
			spends(t, [2]int{left, count}, &q, left, 9, 3, 0, make([]int, count)...)
		}
	}
}

// TestSpendOfZerosBesideOthers: they are nothing more, at each place.
func TestSpendOfZerosBesideOthers(t *testing.T) {
	for _, ns := range orders([]int{0, 2, 0, 3, 0}) {
		for _, left := range []int{5, 6, 100} {
			q := used(left, 1, 0)
			spends(t, ns, &q, left, 1, 0, 5, ns...)
		}
		for left := range 5 {
			q := used(left, 1, 0)
			refuses(t, ns, &q, left, 1, 0, ns...)
		}
	}
}

// TestSpendBelowZero: one below 0 at each place of lists that would be at most what is left, without it and with it.
func TestSpendBelowZero(t *testing.T) {
	lists := [][]int{{}, {0}, {1}, {9}, {10}, {1, 2}, {0, 0}, {5, 5}, {1, 2, 3}, {4, 0, 6}, {1, 2, 3, 4}, {0, 0, 0, 0, 0}}
	for _, ns := range lists {
		for _, below := range []int{-1, -2, -5, -10, -11, math.MinInt32, -1 << 32, -1 << 62, math.MinInt + 1, math.MinInt} {
			for place := range len(ns) + 1 {
				q := used(10, 4, 1)
				with := slices.Insert(slices.Clone(ns), place, below)
				refuses(t, "one", &q, 10, 4, 1, with...)
				// However many are below 0, it is one more that was refused.
				refuses(t, "two", &q, 10, 4, 2, slices.Insert(slices.Clone(with), place, below)...)
				refuses(t, "doubled", &q, 10, 4, 3, slices.Repeat(with, 2)...)
				spends(t, "without", &q, 10, 4, 4, sum(ns), ns...)
			}
		}
	}
}

// sum adds up numbers whose sum has room.
func sum(ns []int) int {
	all := 0
	for _, n := range ns {
		all += n
	}
	return all
}

// TestSpendBelowZeroMakesUp: those below 0 would make up for what is too much, or for all of it.
func TestSpendBelowZeroMakesUp(t *testing.T) {
	for _, ns := range [][]int{
		{5, -3}, {6, -1}, {7, -7}, {8, -9}, {100, -95}, {3, 3, -1}, {2, 2, 2, -1}, {1, -1, 1, -1}, {5, 5, -5}, {5, -5, 5}, {6, 0, -6},
		{math.MaxInt, -math.MaxInt}, {math.MaxInt, math.MinInt}, {math.MaxInt, math.MinInt, 1}, {math.MaxInt, math.MinInt, 6},
		{math.MinInt, math.MinInt}, {math.MinInt, math.MinInt, 5}, {math.MinInt, math.MaxInt, 1}, {-1 << 62, -1 << 62, -1 << 62, -1 << 62},
		{-1, 1}, {-5, 5}, {-1, -1}, {-5}, {-1},
	} {
		for _, order := range orders(ns) {
			for _, left := range []int{0, 1, 5, 4000, math.MaxInt - 3} {
				q := used(left, 3, 0)
				refuses(t, order, &q, left, 3, 0, order...)
			}
		}
	}
}

// TestSpendWithoutRoom: in whatever order the numbers stand, also with one below 0 at each place.
func TestSpendWithoutRoom(t *testing.T) {
	for _, ns := range withoutRoom {
		if all, noneBelow := allOf(ns); all.IsInt64() || !noneBelow {
			t.Fatal("has room", ns)
		}
		for _, order := range orders(ns) {
			for _, left := range []int{0, 1, 2, 3, 5, 4000, 1 << 62, math.MaxInt - 1} {
				q := used(left, 1, 0)
				refuses(t, "as it is", &q, left, 1, 0, order...)
			}
			for _, below := range []int{-1, -2, math.MinInt + 1, math.MinInt} {
				for place := range len(order) + 1 {
					q := quota.Of(math.MaxInt)
					refuses(t, "below 0", &q, math.MaxInt, 0, 0, slices.Insert(slices.Clone(order), place, below)...)
				}
			}
		}
		q := quota.Of(math.MaxInt)
		refuses(t, "all is left", &q, math.MaxInt, 0, 0, ns...)
		spends(t, "as if nothing was", &q, math.MaxInt, 0, 1, math.MaxInt, math.MaxInt)
	}
}

// TestSpendGoesRoundToWhatIsLeft: of each count that is left, sums that go round just to it, or below it.
func TestSpendGoesRoundToWhatIsLeft(t *testing.T) {
	for left := range 50 {
		for all := range left + 1 {
			q := used(left, 2, 0)
			refuses(t, [2]int{left, all}, &q, left, 2, 0, math.MaxInt, math.MaxInt, all+2)
			refuses(t, [2]int{left, all}, &q, left, 2, 1, all+2, math.MaxInt, math.MaxInt)
			refuses(t, [2]int{left, all}, &q, left, 2, 2, 1<<62, all, 1<<62, 1<<62, 1<<62)
			refuses(t, [2]int{left, all}, &q, left, 2, 3, all, 1<<62, 1<<62, 1<<62, 1<<62)
		}
	}
}

// TestSpendOfMany: one by one they are just as much as all together.
func TestSpendOfMany(t *testing.T) {
	const many = 100_000
	ones := slices.Repeat([]int{1}, many+1)
	q := quota.Of(many)
	refuses(t, "one more", &q, many, 0, 0, ones...)
	ones = ones[:many]
	ones[many-1] = -1
	refuses(t, "the last one is below 0", &q, many, 0, 1, ones...)
	ones[many-1] = 1
	spends(t, "just as many", &q, many, 0, 2, many, ones...)
	refuses(t, "again", &q, 0, many, 2, ones...)
	single := quota.Of(many)
	for n := range many {
		if !single.Spend(1) {
			t.Fatal("one by one", n)
		}
	}
	holds(t, "one by one", single, 0, many, 0)
	refuses(t, "one by one", &single, 0, many, 0, 1)
}

// TestSpendManyTimesRefused: each is counted, and what is left may still be spent behind them.
func TestSpendManyTimesRefused(t *testing.T) {
	q := quota.Of(4)
	for refused := range 5000 {
		refuses(t, refused, &q, 4, 0, refused, 5+refused)
	}
	spends(t, "behind them", &q, 4, 0, 5000, 4, 4)
	for refused := range 5000 {
		refuses(t, refused, &q, 0, 4, 5000+refused, 1)
	}
}

// TestSpendOfTwoGreat lays every number beside every other, with each count left.
func TestSpendOfTwoGreat(t *testing.T) {
	for _, most := range ints {
		for _, first := range ints {
			for _, second := range ints {
				q := quota.Of(most)
				follows(t, most, &q, first, second)
				follows(t, most, &q, second, first, 0)
			}
		}
	}
}

// P14.1: Refuse

// TestRefuse counts one more, whatever is left.
func TestRefuse(t *testing.T) {
	for _, most := range ints {
		q := quota.Of(most)
		left := q.Left()
		q.Refuse()
		holds(t, most, q, left, 0, 1)
		q.Spend(left)
		holds(t, most, q, 0, left, 1)
		q.Refuse()
		q.Refuse()
		holds(t, most, q, 0, left, 3)
	}
}

// TestRefuseManyTimes: by itself, and beside what Spend refuses.
func TestRefuseManyTimes(t *testing.T) {
	q := quota.Of(7)
	q.Spend(3)
	for n := range 100_000 {
		q.Refuse()
		if q.Refused() != n+1 {
			t.Fatal("by itself", n, q.Refused())
		}
	}
	holds(t, "by itself", q, 4, 3, 100_000)
	for range 1000 {
		q.Refuse()
		q.Spend(5)
		q.Spend(-1)
		q.Spend()
	}
	holds(t, "beside Spend", q, 4, 3, 103_000)
	spends(t, "behind them", &q, 4, 3, 103_000, 4, 2, 2)
}

// P14.2

// book is a quota beside counts of what was answered.
type book struct {
	q                    quota.Quota
	most, spent, refused int
}

// check asks that Left and Spent are together the most, and each is what was answered.
func (b *book) check(t *testing.T, what any) {
	t.Helper()
	if left, spent := b.q.Left(), b.q.Spent(); left < 0 || spent < 0 || left+spent != b.most {
		t.Errorf("%v: left %d and spent %d aren't %d", what, left, spent, b.most)
	}
	holds(t, what, b.q, b.most-b.spent, b.spent, b.refused)
}

// pick tells a number: small, of ints, or around what is left.
func (b *book) pick(next func(int) int) int {
	switch next(8) {
	case 0:
		return ints[next(len(ints))]
	case 1:
		return b.most - b.spent
	case 2:
		return (b.most-b.spent)/2 + next(3) - 1
	case 3:
		return (b.most - b.spent) / (1 + next(40))
	default:
		return next(6) - next(2)
	}
}

// step does one call of some kind.
func (b *book) step(t *testing.T, next func(int) int) {
	t.Helper()
	if next(8) == 0 {
		b.q.Refuse()
		b.refused++
		return
	}
	ns := make([]int, next(5))
	for i := range ns {
		ns[i] = b.pick(next)
	}
	all, noneBelow := allOf(ns)
	want := noneBelow && all.Cmp(big.NewInt(int64(b.most-b.spent))) <= 0
	if got := b.q.Spend(ns...); got != want {
		t.Fatalf("Spend(%v) of %d: %v", ns, b.most-b.spent, got)
	}
	if want {
		b.spent += int(all.Int64())
	} else {
		b.refused++
	}
}

// TestLongRuns: calls of all kinds to several quotas, some of which are copies of others on the way.
func TestLongRuns(t *testing.T) {
	mosts := []int{0, 1, 5, 40, 4000, 1 << 32, 1 << 62, math.MaxInt - 1, math.MaxInt}
	whole, part, none := 0, 0, 0
	for seed := range 60 {
		next := numbers(uint64(seed))
		books := make([]book, 4)
		for turn := range 500 {
			b := &books[next(len(books))]
			switch {
			case turn < len(books) || next(60) == 0:
				most := mosts[next(len(mosts))]
				*b = book{q: quota.Of(most), most: most}
			case next(30) == 0:
				*b = books[next(len(books))]
			default:
				b.step(t, next)
			}
			for i := range books {
				books[i].check(t, i)
			}
			if t.Failed() {
				t.Fatal("seed", seed, "turn", turn)
			}
			switch {
			case b.spent == b.most:
				none++
			case b.spent > 0:
				part++
			default:
				whole++
			}
		}
	}
	// The runs are of some worth only if they come by all three.
	if whole < 1000 || part < 1000 || none < 1000 {
		t.Error("whole", whole, "part", part, "none", none)
	}
}

// TestTogetherTheMost: behind every pair of calls on every most, whatever both were.
func TestTogetherTheMost(t *testing.T) {
	for _, most := range ints {
		begun := quota.Of(most)
		all := begun.Left()
		for _, first := range ints {
			for _, second := range ints {
				q := begun
				q.Spend(first)
				one := q
				q.Spend(second, 1)
				q.Refuse()
				if one.Left()+one.Spent() != all || q.Left()+q.Spent() != all {
					t.Error(most, first, second, one, q)
				}
				if one.Left() > all || q.Left() > one.Left() || q.Left() < 0 {
					t.Error("rises, or is below 0", most, first, second, one, q)
				}
			}
		}
	}
}

// What is handed in

// TestHandedInStays: neither the numbers nor the room behind them are written, spent or refused.
func TestHandedInStays(t *testing.T) {
	for _, whole := range [][]int{
		{1, 2, 3, 4, 5, 6}, {0, 0, 0, 0}, {3, -1, 2, math.MinInt}, {-1, 5, 5}, {math.MaxInt, math.MaxInt, 2, 1}, {6, 5, 4, 3, 2, 1}, {9, 9, 9, 0},
	} {
		for count := range len(whole) + 1 {
			for _, most := range []int{-1, 0, 1, 6, 9, 21, math.MaxInt} {
				ns := slices.Clone(whole)
				q := quota.Of(most)
				for range 3 {
					q.Spend(ns[:count]...)
					q.Refuse()
				}
				if !slices.Equal(ns, whole) {
					t.Error(count, most, ns, whole)
				}
			}
		}
	}
}

// TestRoomBehindIsNotRead: what stands there is neither spent nor refused.
func TestRoomBehindIsNotRead(t *testing.T) {
	for _, behind := range []int{-1, 1, 3, math.MinInt, math.MaxInt} {
		ns := []int{2, 1, behind, behind}
		q := quota.Of(5)
		spends(t, behind, &q, 5, 0, 0, 3, ns[:2]...)
		spends(t, behind, &q, 2, 3, 0, 0, ns[:0]...)
		refuses(t, behind, &q, 2, 3, 0, ns[:2]...)
		spends(t, behind, &q, 2, 3, 1, 1, ns[1:2]...)
	}
}

// TestHandedInIsNotKept: what is written over a list behind a call isn't seen.
func TestHandedInIsNotKept(t *testing.T) {
	q := quota.Of(10)
	ns := []int{2, 1}
	q.Spend(ns...)
	ns[0], ns[1] = 9, -9
	holds(t, "spent", q, 7, 3, 0)
	q.Spend(ns...)
	ns[0], ns[1] = 4, 2
	holds(t, "refused", q, 7, 3, 1)
	spends(t, "again", &q, 7, 3, 1, 6, ns...)
}

// A Quota is a value

// calls are ways of doing something to a quota of which 4 are left, and what they change.
func calls() []struct {
	do             func(q *quota.Quota)
	spent, refused int
} {
	return []struct {
		do             func(q *quota.Quota)
		spent, refused int
	}{
		{func(q *quota.Quota) {}, 0, 0},
		{func(q *quota.Quota) { q.Spend() }, 0, 0},
		{func(q *quota.Quota) { q.Spend(0) }, 0, 0},
		{func(q *quota.Quota) { q.Spend(1) }, 1, 0},
		{func(q *quota.Quota) { q.Spend(1, 2) }, 3, 0},
		{func(q *quota.Quota) { q.Spend(4) }, 4, 0},
		{func(q *quota.Quota) { q.Spend(5) }, 0, 1},
		{func(q *quota.Quota) { q.Spend(1, -1) }, 0, 1},
		{func(q *quota.Quota) { q.Spend(math.MaxInt, math.MaxInt, 2) }, 0, 1},
		{func(q *quota.Quota) { q.Refuse() }, 0, 1},
		{func(q *quota.Quota) { q.Refuse(); q.Spend(2); q.Refuse(); q.Spend(3) }, 2, 3},
	}
}

// TestCopyIsTheSame, and goes on alike.
func TestCopyIsTheSame(t *testing.T) {
	for i, call := range calls() {
		q := used(4, 3, 2)
		c := q
		holds(t, i, c, 4, 3, 2)
		call.do(&q)
		call.do(&c)
		for _, x := range []quota.Quota{q, c} {
			holds(t, i, x, 4-call.spent, 3+call.spent, 2+call.refused)
		}
	}
}

// TestCopiesAreApart: copied before, between and behind calls, each has just its own calls.
func TestCopiesAreApart(t *testing.T) {
	for i, first := range calls() {
		for j, second := range calls() {
			what := [2]int{i, j}
			q := used(4, 3, 2)
			before := q
			first.do(&q)
			between := q
			second.do(&q)
			behind := q
			left, spent, refused := q.Left(), q.Spent(), q.Refused()
			holds(t, what, before, 4, 3, 2)
			holds(t, what, between, 4-first.spent, 3+first.spent, 2+first.refused)
			holds(t, what, behind, left, spent, refused)
			spends(t, what, &before, 4, 3, 2, 4, 4)
			between.Refuse()
			behind.Spend(left)
			behind.Refuse()
			holds(t, what, q, left, spent, refused)
			holds(t, what, before, 0, 7, 2)
			holds(t, what, between, 4-first.spent, 3+first.spent, 3+first.refused)
			holds(t, what, behind, 0, 7, refused+1)
		}
	}
}

// TestNeitherTouchesTheOther: whichever of the two is called, the other stays.
func TestNeitherTouchesTheOther(t *testing.T) {
	for i, call := range calls() {
		q := used(4, 3, 2)
		c := q
		call.do(&c)
		holds(t, i, q, 4, 3, 2)
		holds(t, i, c, 4-call.spent, 3+call.spent, 2+call.refused)
		d := q
		call.do(&q)
		holds(t, i, d, 4, 3, 2)
		holds(t, i, q, 4-call.spent, 3+call.spent, 2+call.refused)
		spends(t, i, &d, 4, 3, 2, 4, 4)
		holds(t, i, q, 4-call.spent, 3+call.spent, 2+call.refused)
	}
}

// TestEachCopyIsByItself: one a step, none of which any later step is seen in.
func TestEachCopyIsByItself(t *testing.T) {
	q := quota.Of(30)
	var copies []quota.Quota
	for n := range 10 {
		copies = append(copies, q)
		q.Spend(n%3, 1)
		q.Spend(99)
		q.Refuse()
	}
	left, spent := 30, 0
	for n, c := range copies {
		holds(t, n, c, left, spent, 2*n)
		left -= n%3 + 1
		spent += n%3 + 1
	}
	holds(t, "last", q, left, spent, 20)
}

// TestHandedOnByValue: to a function, in a list, out of a map.
func TestHandedOnByValue(t *testing.T) {
	q := used(4, 3, 2)
	spendAll := func(c quota.Quota) quota.Quota {
		c.Spend(c.Left())
		c.Refuse()
		return c
	}
	holds(t, "answered", spendAll(q), 0, 7, 3)
	list := [2]quota.Quota{q, q}
	list[1].Spend(1)
	kept := map[int]quota.Quota{1: q}
	c := kept[1]
	c.Spend(2)
	holds(t, "its own", q, 4, 3, 2)
	holds(t, "first", list[0], 4, 3, 2)
	holds(t, "second", list[1], 3, 4, 2)
	holds(t, "kept", kept[1], 4, 3, 2)
	holds(t, "out of the map", c, 2, 5, 2)
}

// TestLaidOver: a quota that another one is laid over is that one from then on.
func TestLaidOver(t *testing.T) {
	q := used(4, 3, 2)
	p := &q
	q = quota.Of(6)
	holds(t, "laid over", p, 6, 0, 0)
	p.Spend(5)
	*p = used(1, 1, 1)
	holds(t, "laid over", q, 1, 1, 1)
}

// Ways: others embed a Quota, and what is spent is variadic.

type purse struct {
	name string
	quota.Quota
	open bool
}

type belt struct {
	*purse
	other quota.Quota
}

func TestEmbedded(t *testing.T) {
	p := purse{name: "north", Quota: quota.Of(5), open: true}
	holds(t, "promoted", p, 5, 0, 0)
	if !p.Spend(2, 1) || p.Spend(3) || !p.Spend() || p.Spend(1, -1) {
		t.Error("promoted Spend", p)
	}
	p.Refuse()
	holds(t, "promoted", p, 2, 3, 3)
	holds(t, "its own", p.Quota, 2, 3, 3)
	if p.name != "north" || !p.open {
		t.Error("other fields", p)
	}
	var zero purse
	if zero.Spend(1) || !zero.Spend(0) {
		t.Error("zero", zero)
	}
	holds(t, "zero", zero, 0, 0, 1)
}

// TestEmbeddedCopy: a copy of the outer one goes on by itself, too.
func TestEmbeddedCopy(t *testing.T) {
	p := purse{Quota: quota.Of(9)}
	p.Spend(2)
	other := p
	p.Spend(3)
	other.Refuse()
	other.Spend(8)
	holds(t, "original", p, 4, 5, 0)
	holds(t, "copy", other, 7, 2, 2)
	p.Quota = other.Quota
	p.Spend(7)
	holds(t, "laid over", p, 0, 9, 2)
	holds(t, "copy", other, 7, 2, 2)
}

// TestEmbeddedTwice: promoted through a pointer, beside another quota.
func TestEmbeddedTwice(t *testing.T) {
	b := belt{purse: &purse{Quota: quota.Of(3)}, other: quota.Of(8)}
	if !b.Spend(1, 1) || b.Spend(2) || !b.other.Spend(5) {
		t.Error("Spend", b)
	}
	twin := b
	twin.Refuse()
	twin.other.Refuse()
	holds(t, "inner, shared by its pointer", b, 1, 2, 2)
	holds(t, "inner", b.purse.Quota, 1, 2, 2)
	holds(t, "beside", b.other, 3, 5, 0)
	holds(t, "beside, copied", twin.other, 3, 5, 1)
}

// TestAsMethodValues: Spend and Refuse of a pointer go on with one quota; what is asked of a value is of that moment.
func TestAsMethodValues(t *testing.T) {
	q := quota.Of(6)
	spend, refuse, left := q.Spend, q.Refuse, q.Left
	if !spend(1, 2) || spend(4) || !spend([]int{1, 1}...) {
		t.Error("spend")
	}
	refuse()
	holds(t, "one quota", q, 1, 5, 2)
	if left() != 6 {
		t.Error("left", left())
	}
	var of func(int) quota.Quota = quota.Of
	holds(t, "of", of(3), 3, 0, 0)
}
