package slot_test

import (
	"math"
	"slices"
	"testing"

	"cordon/slot"
)

// rounds holds the orders of ticks 0 to 7, written out; behind them they come again.
var rounds = [8][8]int{
	{0, 1, 2, 3, 4, 5, 6, 7},
	{1, 2, 3, 4, 5, 6, 7, 0},
	{2, 3, 4, 5, 6, 7, 0, 1},
	{3, 4, 5, 6, 7, 0, 1, 2},
	{4, 5, 6, 7, 0, 1, 2, 3},
	{5, 6, 7, 0, 1, 2, 3, 4},
	{6, 7, 0, 1, 2, 3, 4, 5},
	{7, 0, 1, 2, 3, 4, 5, 6},
}

// greatTicks holds ticks as great as an int can be, and others beyond 32 bits, with who is the first one.
var greatTicks = []struct{ tick, first int }{
	{math.MaxInt, 7}, {math.MaxInt - 1, 6}, {math.MaxInt - 2, 5}, {math.MaxInt - 3, 4},
	{math.MaxInt - 4, 3}, {math.MaxInt - 5, 2}, {math.MaxInt - 6, 1}, {math.MaxInt - 7, 0},
	{math.MaxInt - 8, 7}, {math.MaxInt - 9, 6}, {math.MaxInt - 15, 0}, {math.MaxInt - 16, 7},
	{1 << 62, 0}, {1<<62 - 1, 7}, {1<<62 + 1, 1}, {1<<62 + 13, 5},
	{math.MaxInt32, 7}, {math.MaxInt32 + 1, 0}, {math.MaxInt32 + 2, 1},
	{math.MaxUint32, 7}, {1 << 32, 0}, {1<<32 + 1, 1}, {1<<32 + 10, 2},
	{1<<40 + 3, 3}, {1 << 53, 0}, {1<<53 + 1, 1}, {1<<53 - 1, 7}, {1<<56 + 6, 6},
}

// belowTicks holds ticks below 0, down to the least int.
var belowTicks = []int{
	-1, -2, -3, -4, -5, -6, -7, -8, -9, -15, -16, -17, -100, -255, -256, -257, math.MinInt32, math.MinInt32 - 1, -1 << 32, -1<<32 + 1,
	-1 << 53, -1 << 62, math.MinInt + 9, math.MinInt + 8, math.MinInt + 7, math.MinInt + 1, math.MinInt,
}

// ints holds numbers of all kinds: the ends of int, and numbers around those that count here.
var ints = []int{
	math.MinInt, math.MinInt + 1, -1 << 62, -1 << 32, math.MinInt32, -9, -8, -2, -1,
	0, 1, 2, 3, 4, 5, 7, 8, 9, 15, 16, 17, 255, 256, math.MaxInt32, math.MaxInt32 + 1, 1 << 32, 1<<32 + 1, 1 << 62, math.MaxInt - 1, math.MaxInt,
}

// follows asks that turns are as in rounds, from first on, each with the budget that stands at its tenant's place.
func follows(t *testing.T, what any, turns []slot.Turn, first int, budgets [8]int) {
	t.Helper()
	if len(turns) != 8 {
		t.Fatalf("%v: %d turns: %v", what, len(turns), turns)
	}
	for i, turn := range turns {
		want := slot.Turn{Tenant: rounds[first][i], Budget: budgets[rounds[first][i]]}
		if turn != want {
			t.Errorf("%v, turn %d: %v; want %v", what, i, turn, want)
		}
	}
}

// none asks that there are no turns.
func none(t *testing.T, what any, turns []slot.Turn) {
	t.Helper()
	if len(turns) != 0 {
		t.Errorf("%v: %v; want none", what, turns)
	}
}

// budgetOf tells the budget of a tenant in turns; -1 if it isn't there once.
func budgetOf(turns []slot.Turn, tenant int) int {
	budget, times := 0, 0
	for _, turn := range turns {
		if turn.Tenant == tenant {
			budget = turn.Budget
			times++
		}
	}
	if times != 1 {
		return -1
	}
	return budget
}

// lesser tells what is served of so many with so great a budget, asked one by one what lies below what.
func lesser(budget, waits int) int {
	switch {
	case budget < 1 || waits < 1:
		return 0
	case waits < budget:
		return waits
	}
	return budget
}

// spoil writes over a list, and over the room behind it.
func spoil(turns []slot.Turn) {
	turns = turns[:cap(turns)]
	for i := range turns {
		turns[i] = slot.Turn{Tenant: -99, Budget: -99}
	}
}

func TestRuns(t *testing.T) {
	order := slot.Order(9)
	wantOrder := []slot.Turn{{1, 0}, {2, 0}, {3, 0}, {4, 0}, {5, 0}, {6, 0}, {7, 0}, {0, 0}}
	if !slices.Equal(order, wantOrder) {
		t.Error("Order(9)", order)
	}
	plan := slot.Plan(3, 0, 5, 0, 2)
	wantPlan := []slot.Turn{{0, 3}, {1, 0}, {2, 2}, {3, 0}, {4, 0}, {5, 0}, {6, 0}, {7, 0}}
	if !slices.Equal(plan, wantPlan) {
		t.Error("Plan(3, 0, 5, 0, 2)", plan)
	}
	if got := slot.Ticks(7, 3); got != 3 {
		t.Error("Ticks(7, 3)", got)
	}
}

// TestTurn: a value of two ints, the tenant ahead of the budget.
func TestTurn(t *testing.T) {
	turn := slot.Turn{3, 5}
	if turn.Tenant != 3 || turn.Budget != 5 {
		t.Error("fields", turn)
	}
	other := turn
	other.Budget = math.MaxInt
	if turn != (slot.Turn{Budget: 5, Tenant: 3}) || other == turn {
		t.Error("a copy", turn, other)
	}
	if (slot.Turn{}) != (slot.Turn{Tenant: 0, Budget: 0}) {
		t.Error("zero")
	}
	var anonymous struct{ Tenant, Budget int } = turn
	if slot.Turn(anonymous) != turn {
		t.Error("other fields than the chapter's")
	}
}

// P13.1

func TestOrderOfEachOne(t *testing.T) {
	for tick := range rounds {
		follows(t, tick, slot.Order(tick), tick, [8]int{})
	}
}

// TestOrderAroundMultiples: one below, at and one above each multiple of the number of tenants.
func TestOrderAroundMultiples(t *testing.T) {
	follows(t, 0, slot.Order(0), 0, [8]int{})
	follows(t, 1, slot.Order(1), 1, [8]int{})
	for multiple := 8; multiple <= 8*2000; multiple += 8 {
		follows(t, multiple-1, slot.Order(multiple-1), 7, [8]int{})
		follows(t, multiple, slot.Order(multiple), 0, [8]int{})
		follows(t, multiple+1, slot.Order(multiple+1), 1, [8]int{})
	}
}

// TestOrderAroundGreatMultiples goes over the powers of two, which are multiples of 8 all.
func TestOrderAroundGreatMultiples(t *testing.T) {
	for power := 3; power < 63; power++ {
		multiple := 1 << power
		follows(t, multiple-1, slot.Order(multiple-1), 7, [8]int{})
		follows(t, multiple, slot.Order(multiple), 0, [8]int{})
		follows(t, multiple+1, slot.Order(multiple+1), 1, [8]int{})
	}
}

// TestOrderEachTickIsOneOn: who was first is last at the next tick.
func TestOrderEachTickIsOneOn(t *testing.T) {
	first := 0
	for tick := range 5000 {
		follows(t, tick, slot.Order(tick), first, [8]int{})
		first = rounds[first][1]
	}
}

func TestOrderOfGreatTicks(t *testing.T) {
	for _, q := range greatTicks {
		follows(t, q.tick, slot.Order(q.tick), q.first, [8]int{})
	}
}

func TestOrderBelowZero(t *testing.T) {
	for _, tick := range belowTicks {
		none(t, tick, slot.Order(tick))
	}
	for tick := -1000; tick < 0; tick++ {
		none(t, tick, slot.Order(tick))
	}
}

// TestOrderHasEachOnce asks without rounds: each is there once, round, with Budget 0.
func TestOrderHasEachOnce(t *testing.T) {
	ticks := []int{math.MaxInt, math.MaxInt - 1, 1 << 62, 1<<33 + 5}
	for tick := range 300 {
		ticks = append(ticks, tick)
	}
	for _, tick := range ticks {
		turns := slot.Order(tick)
		var times [8]int
		for i, turn := range turns {
			if turn.Tenant < 0 || turn.Tenant > 7 || turn.Budget != 0 {
				t.Fatal(tick, i, turn)
			}
			times[turn.Tenant]++
			ahead := turns[(i+len(turns)-1)%len(turns)].Tenant
			if turn.Tenant != ahead+1 && !(turn.Tenant == 0 && ahead == 7) {
				t.Error("not round", tick, turns)
			}
		}
		if times != [8]int{1, 1, 1, 1, 1, 1, 1, 1} {
			t.Error("not once", tick, turns)
		}
	}
}

// P13.2

func TestPlanWrittenOut(t *testing.T) {
	for i, q := range []struct {
		budget, tick int
		waiting      []int
		first        int
		want         [8]int // by tenants
	}{
		{3, 0, []int{5, 0, 2}, 0, [8]int{3, 0, 2}},
		{3, 5, []int{5, 0, 2}, 5, [8]int{3, 0, 2}},
		{1, 7, []int{5, 0, 2}, 7, [8]int{1, 0, 1}},
		{8, 8, []int{16, 16, 16, 16, 16, 16, 16, 16}, 0, [8]int{8, 8, 8, 8, 8, 8, 8, 8}},
		{8, 9, []int{1, 2, 3, 4, 5, 6, 7, 8}, 1, [8]int{1, 2, 3, 4, 5, 6, 7, 8}},
		{4, 3, []int{1, 2, 3, 4, 5, 6, 7, 8}, 3, [8]int{1, 2, 3, 4, 4, 4, 4, 4}},
		{4, 6, []int{8, 7, 6, 5, 4, 3, 2, 1}, 6, [8]int{4, 4, 4, 4, 4, 3, 2, 1}},
		{2, 1, []int{0, 0, 0, 0, 0, 0, 0, 9}, 1, [8]int{0, 0, 0, 0, 0, 0, 0, 2}},
		{2, 2, []int{9}, 2, [8]int{2}},
		{2, 4, []int{-9, 9}, 4, [8]int{0, 2}},
		{math.MaxInt, math.MaxInt, []int{math.MaxInt, 1, math.MinInt, math.MaxInt - 1}, 7, [8]int{math.MaxInt, 1, 0, math.MaxInt - 1}},
		{math.MinInt, 0, []int{math.MaxInt, 1, math.MinInt}, 0, [8]int{}},
		{7, 10, []int{1, 2, 3, 4, 5, 6, 7, 8, 9, 10, 11}, 2, [8]int{1, 2, 3, 4, 5, 6, 7, 7}},
	} {
		follows(t, i, slot.Plan(q.budget, q.tick, q.waiting...), q.first, q.want)
	}
}

// TestPlanOfNoneWaiting: nobody has a number, so nobody is served, whatever the budget.
func TestPlanOfNoneWaiting(t *testing.T) {
	for _, budget := range ints {
		for tick := range rounds {
			follows(t, budget, slot.Plan(budget, tick), tick, [8]int{})
			follows(t, budget, slot.Plan(budget, tick, nil...), tick, [8]int{})
			follows(t, budget, slot.Plan(budget, tick, []int{}...), tick, [8]int{})
		}
	}
}

// TestPlanOfOneWaiting lays every number against every budget, at each tick of a round.
func TestPlanOfOneWaiting(t *testing.T) {
	for _, budget := range ints {
		for _, waits := range ints {
			want := [8]int{lesser(budget, waits)}
			for tick := range rounds {
				follows(t, [2]int{budget, waits}, slot.Plan(budget, tick, waits), tick, want)
			}
		}
	}
}

// TestPlanAtEachPlace lays every number at every place, with nothing ahead of it and none behind.
func TestPlanAtEachPlace(t *testing.T) {
	for _, budget := range ints {
		for _, waits := range ints {
			for place := range 8 {
				waiting := make([]int, place+1)
				waiting[place] = waits
				var want [8]int
				want[place] = lesser(budget, waits)
				follows(t, [3]int{budget, waits, place}, slot.Plan(budget, place+3, waiting...), (place+3)%8, want)
			}
		}
	}
}

// TestPlanOfSoMany: with fewer numbers than tenants the others have none; with more, those behind are nobody's.
func TestPlanOfSoMany(t *testing.T) {
	for _, count := range []int{0, 1, 2, 3, 4, 5, 6, 7, 8, 9, 10, 15, 16, 17, 64, 1000} {
		waiting := make([]int, count)
		var want [8]int
		for i := range waiting {
			waiting[i] = 11 + i
			if i < 8 {
				want[i] = min(15, 11+i)
			}
		}
		for tick := range rounds {
			follows(t, count, slot.Plan(15, tick, waiting...), tick, want)
		}
	}
}

// TestPlanBehindTheTenants: what stands behind the eighth number changes nothing, be it as great or as small as it can be.
func TestPlanBehindTheTenants(t *testing.T) {
	waiting := []int{0, 1, 2, 3, 4, 5, 6, 7}
	for _, behind := range ints {
		for tick := range rounds {
			turns := slot.Plan(5, tick, append(slices.Clone(waiting), behind, behind)...)
			follows(t, behind, turns, tick, [8]int{0, 1, 2, 3, 4, 5, 5, 5})
		}
	}
}

// TestPlanBudgets: below 0, 0, 1, fewer than wait, just as many, more, and the greatest.
func TestPlanBudgets(t *testing.T) {
	waiting := []int{6, 6, 0, 6, -6, 6, 6, 6}
	for _, q := range []struct{ budget, each int }{
		{math.MinInt, 0}, {math.MinInt + 1, 0}, {math.MinInt32, 0}, {-6, 0}, {-1, 0}, {0, 0}, {1, 1}, {2, 2}, {5, 5},
		{6, 6}, {7, 6}, {8, 6}, {9, 6}, {1 << 32, 6}, {1<<32 + 1, 6}, {math.MaxInt - 1, 6}, {math.MaxInt, 6},
	} {
		want := [8]int{q.each, q.each, 0, q.each, 0, q.each, q.each, q.each}
		for tick := range rounds {
			follows(t, q.budget, slot.Plan(q.budget, tick, waiting...), tick, want)
		}
	}
}

// TestPlanBudgetIsEachOnes: served to one, it isn't taken from another's.
func TestPlanBudgetIsEachOnes(t *testing.T) {
	for budget := range 20 {
		for waits := range 20 {
			each := lesser(budget, waits)
			turns := slot.Plan(budget, budget+waits, waits, waits, waits, waits, waits, waits, waits, waits)
			follows(t, [2]int{budget, waits}, turns, (budget+waits)%8, [8]int{each, each, each, each, each, each, each, each})
		}
	}
}

// TestPlanFollowsOrder: at every tick who is served is who is in the Order.
func TestPlanFollowsOrder(t *testing.T) {
	for tick := range 300 {
		follows(t, tick, slot.Plan(4, tick, 9, 3, 0, 4), tick&7, [8]int{4, 3, 0, 4})
		turns := slot.Plan(4, tick, 9, 3, 0, 4)
		for i, turn := range slot.Order(tick) {
			if turns[i].Tenant != turn.Tenant {
				t.Error(tick, i, turns[i], turn)
			}
		}
	}
	for _, q := range greatTicks {
		follows(t, q.tick, slot.Plan(4, q.tick, 9, 3, 0, 4), q.first, [8]int{4, 3, 0, 4})
	}
}

func TestPlanBelowZero(t *testing.T) {
	for _, tick := range belowTicks {
		none(t, tick, slot.Plan(3, tick))
		none(t, tick, slot.Plan(3, tick, 5))
		none(t, tick, slot.Plan(math.MaxInt, tick, 1, 2, 3, 4, 5, 6, 7, 8, 9))
		none(t, tick, slot.Plan(-1, tick, math.MaxInt, math.MinInt))
	}
}

// P13.3

func TestTicksWrittenOut(t *testing.T) {
	for _, q := range []struct{ waiting, budget, want int }{
		{7, 3, 3}, {6, 3, 2}, {5, 3, 2}, {4, 3, 2}, {3, 3, 1}, {2, 3, 1}, {1, 3, 1}, {0, 3, 0}, {-1, 3, 0}, {-3, 3, 0}, {-4, 3, 0},
		{1, 1, 1}, {2, 1, 2}, {16, 1, 16}, {16, 8, 2}, {17, 8, 3}, {15, 8, 2}, {9, 8, 2}, {8, 8, 1}, {4000, 7, 572},
		{1, 9, 1}, {8, 9, 1}, {1, math.MaxInt, 1}, {5, 1 << 32, 1}, {1<<32 + 1, 1 << 32, 2}, {1 << 33, 1 << 32, 2},
	} {
		if got := slot.Ticks(q.waiting, q.budget); got != q.want {
			t.Errorf("Ticks(%d, %d): %d; want %d", q.waiting, q.budget, got, q.want)
		}
	}
}

// TestTicksCounted takes the budget off till nothing waits.
func TestTicksCounted(t *testing.T) {
	for budget := 1; budget < 40; budget++ {
		for waiting := -5; waiting < 300; waiting++ {
			want := 0
			for left := waiting; left > 0; left -= budget {
				want++
			}
			if got := slot.Ticks(waiting, budget); got != want {
				t.Errorf("Ticks(%d, %d): %d; want %d", waiting, budget, got, want)
			}
		}
	}
}

// TestTicksAroundMultiples: one below, at and one above multiples of the budget, great ones too.
func TestTicksAroundMultiples(t *testing.T) {
	for _, budget := range []int{2, 3, 5, 7, 8, 10, 255, 1<<20 - 1, 1 << 20, math.MaxInt32, 1 << 32, 1<<40 + 1} {
		most := (math.MaxInt - 1) / budget
		for _, times := range []int{1, 2, 3, 4, 8, 100, most / 3, most / 2, most - 1, most} {
			multiple := budget * times
			for _, q := range [][2]int{{multiple - 1, times}, {multiple, times}, {multiple + 1, times + 1}} {
				if got := slot.Ticks(q[0], budget); got != q[1] {
					t.Errorf("Ticks(%d, %d): %d; want %d", q[0], budget, got, q[1])
				}
			}
		}
	}
}

// TestTicksOfGreatInts: a sum of the two would go round.
func TestTicksOfGreatInts(t *testing.T) {
	for _, q := range []struct{ waiting, budget, want int }{
		{math.MaxInt, 1, math.MaxInt}, {math.MaxInt - 1, 1, math.MaxInt - 1},
		{math.MaxInt, 2, 1 << 62}, {math.MaxInt - 1, 2, 1<<62 - 1}, {math.MaxInt - 2, 2, 1<<62 - 1},
		{math.MaxInt, 3, 3074457345618258603}, {math.MaxInt, 4, 1 << 61}, {math.MaxInt, 7, 1317624576693539401}, {math.MaxInt, 8, 1 << 60},
		{math.MaxInt, 1 << 32, 1 << 31}, {math.MaxInt, 1 << 61, 4}, {math.MaxInt, 1 << 62, 2}, {1 << 62, 1 << 62, 1}, {1<<62 + 1, 1 << 62, 2},
		{math.MaxInt, math.MaxInt, 1}, {math.MaxInt, math.MaxInt - 1, 2}, {math.MaxInt - 1, math.MaxInt, 1}, {math.MaxInt - 1, math.MaxInt - 1, 1},
		{1, math.MaxInt, 1}, {2, math.MaxInt, 1}, {2, math.MaxInt - 1, 1}, {0, math.MaxInt, 0}, {-1, math.MaxInt, 0},
		{math.MinInt, math.MaxInt, 0}, {math.MinInt, 1, 0}, {math.MinInt + 1, 1, 0},
	} {
		if got := slot.Ticks(q.waiting, q.budget); got != q.want {
			t.Errorf("Ticks(%d, %d): %d; want %d", q.waiting, q.budget, got, q.want)
		}
	}
}

// TestTicksOfNothing: what is 0 or below takes none, whatever the budget is, one of 0 or below too.
func TestTicksOfNothing(t *testing.T) {
	for _, waiting := range ints {
		if waiting > 0 {
			continue
		}
		for _, budget := range ints {
			if got := slot.Ticks(waiting, budget); got != 0 {
				t.Errorf("Ticks(%d, %d): %d; want 0", waiting, budget, got)
			}
		}
	}
}

// TestTicksWithoutBudget: -1 just if something waits.
func TestTicksWithoutBudget(t *testing.T) {
	for _, budget := range ints {
		if budget > 0 {
			continue
		}
		for _, waiting := range ints {
			want := 0
			if waiting > 0 {
				want = -1
			}
			if got := slot.Ticks(waiting, budget); got != want {
				t.Errorf("Ticks(%d, %d): %d; want %d", waiting, budget, got, want)
			}
		}
	}
}

// TestTicksOfAllKinds: with a budget something is served behind at least one tick, and in no more ticks than wait.
func TestTicksOfAllKinds(t *testing.T) {
	for _, waiting := range ints {
		for _, budget := range ints {
			if waiting < 1 || budget < 1 {
				continue
			}
			got := slot.Ticks(waiting, budget)
			// All but the last tick leave something, and the last one leaves nothing.
			left := waiting - (got-1)*budget
			if got < 1 || got > waiting || left < 1 || left > budget {
				t.Errorf("Ticks(%d, %d): %d", waiting, budget, got)
			}
		}
	}
}

// TestTicksAsPlanned serves tick by tick, as Plan says, till nothing of anybody waits.
func TestTicksAsPlanned(t *testing.T) {
	for budget := 1; budget < 12; budget++ {
		begun := [8]int{0, 1, budget, budget + 1, 2*budget - 1, 2 * budget, 3*budget + 1, 50}
		waiting := begun
		for tick := range 60 {
			for tenant, left := range waiting {
				if want := slot.Ticks(begun[tenant], budget) > tick; (left > 0) != want {
					t.Errorf("budget %d, tenant %d: %d left behind %d ticks", budget, tenant, left, tick)
				}
			}
			for _, turn := range slot.Plan(budget, tick, waiting[:]...) {
				waiting[turn.Tenant] -= turn.Budget
			}
		}
		if waiting != [8]int{} {
			t.Error("still waiting", budget, waiting)
		}
	}
}

// P13.4

// TestServedWhoeverElseWaits: one's own number stays, each other's is of all kinds, and so are the ticks.
func TestServedWhoeverElseWaits(t *testing.T) {
	for tenant := range 8 {
		for _, own := range []int{math.MinInt, -1, 0, 1, 3, 4, 5, math.MaxInt} {
			for _, others := range ints {
				waiting := slices.Repeat([]int{others}, 10)
				waiting[tenant] = own
				for _, tick := range []int{0, 1, 4, 7, 8, 1000, math.MaxInt} {
					if got := budgetOf(slot.Plan(4, tick, waiting...), tenant); got != lesser(4, own) {
						t.Errorf("tenant %d, %d of its own, %d of others, tick %d: %d", tenant, own, others, tick, got)
					}
				}
			}
		}
	}
}

// TestServedIfOneOtherWaits changes one other's number at a time: nobody else's turn changes.
func TestServedIfOneOtherWaits(t *testing.T) {
	for changed := range 8 {
		for _, to := range ints {
			for tick := range rounds {
				waiting := []int{3, 1, 4, 0, 5, 9, 2, 6}
				want := [8]int{3, 1, 4, 0, 4, 4, 2, 4}
				waiting[changed] = to
				want[changed] = lesser(4, to)
				follows(t, [2]int{changed, to}, slot.Plan(4, tick, waiting...), tick, want)
			}
		}
	}
}

// TestServedWhateverWasAsked: what was asked ahead makes no difference.
func TestServedWhateverWasAsked(t *testing.T) {
	for _, budget := range ints {
		for _, tick := range []int{0, 5, 8, math.MaxInt, -1, math.MinInt} {
			slot.Order(tick)
			slot.Plan(budget, tick, budget, 1, 2, 3, 4, 5, 6, 7)
			slot.Ticks(budget, budget)
			follows(t, "Plan", slot.Plan(3, 5, 5, 0, 2), 5, [8]int{3, 0, 2})
			follows(t, "Order", slot.Order(12), 4, [8]int{})
			if got := slot.Ticks(7, 3); got != 3 {
				t.Error("Ticks", got)
			}
		}
	}
}

// What is handed in, what is handed out

// TestHandedInStays: neither the numbers nor the room behind them are written.
func TestHandedInStays(t *testing.T) {
	whole := []int{7, -3, math.MaxInt, math.MinInt, 0, 1, 2, 3, 4, 5, 6, 7, 8, 9}
	for count := range len(whole) + 1 {
		waiting := slices.Clone(whole)
		for _, budget := range ints {
			for _, tick := range []int{0, 1, 7, 8, math.MaxInt, -1} {
				slot.Plan(budget, tick, waiting[:count]...)
			}
		}
		if !slices.Equal(waiting, whole) {
			t.Error(count, waiting)
		}
	}
}

// TestRoomBehindIsNotRead: a tenant whose number is in the room alone has none.
func TestRoomBehindIsNotRead(t *testing.T) {
	waiting := []int{5, 5, 5, 5, 5, 5, 5, 5, 5, 5}
	for count := range len(waiting) + 1 {
		var want [8]int
		for tenant := range min(count, 8) {
			want[tenant] = 3
		}
		follows(t, count, slot.Plan(3, 2, waiting[:count]...), 2, want)
	}
}

// TestHandedInIsNotKept: what is written over a list behind a call isn't seen.
func TestHandedInIsNotKept(t *testing.T) {
	waiting := []int{5, 0, 2}
	turns := slot.Plan(3, 0, waiting...)
	waiting[0], waiting[1], waiting[2] = 1, 1, 1
	follows(t, "first", turns, 0, [8]int{3, 0, 2})
	follows(t, "second", slot.Plan(3, 0), 0, [8]int{})
}

// TestHandedOutIsNew: what is written over one answer, and over its room, is in no other.
func TestHandedOutIsNew(t *testing.T) {
	for tick := range rounds {
		order, plan := slot.Order(tick), slot.Plan(3, tick, 5, 0, 2)
		moreOrder, morePlan := slot.Order(tick), slot.Plan(3, tick, 5, 0, 2)
		spoil(order)
		follows(t, "the plan", plan, tick, [8]int{3, 0, 2})
		follows(t, "another order", moreOrder, tick, [8]int{})
		spoil(plan)
		follows(t, "another plan", morePlan, tick, [8]int{3, 0, 2})
		follows(t, "another order", moreOrder, tick, [8]int{})
		follows(t, "a later order", slot.Order(tick), tick, [8]int{})
		follows(t, "a later plan", slot.Plan(3, tick, 5, 0, 2), tick, [8]int{3, 0, 2})
	}
}

// TestHandedOutRoomIsNew: what is laid behind one answer is in no other.
func TestHandedOutRoomIsNew(t *testing.T) {
	first, second := slot.Order(3), slot.Order(3)
	firstMore := append(first, slot.Turn{Tenant: 1, Budget: 1})
	secondMore := append(second, slot.Turn{Tenant: 2, Budget: 2})
	if firstMore[8] != (slot.Turn{Tenant: 1, Budget: 1}) || secondMore[8] != (slot.Turn{Tenant: 2, Budget: 2}) {
		t.Error("Order", firstMore, secondMore)
	}
	none, other := slot.Order(-1), slot.Plan(3, -1, 5)
	noneMore := append(none, slot.Turn{Tenant: 1, Budget: 1})
	otherMore := append(other, slot.Turn{Tenant: 2, Budget: 2})
	if noneMore[0] != (slot.Turn{Tenant: 1, Budget: 1}) || otherMore[0] != (slot.Turn{Tenant: 2, Budget: 2}) {
		t.Error("none", noneMore, otherMore)
	}
}

// Ways: waiting is variadic.

// TestPlanIsVariadic: numbers one by one, a list of them, and the function as a value answer the same.
func TestPlanIsVariadic(t *testing.T) {
	var plan func(budget, tick int, waiting ...int) []slot.Turn = slot.Plan
	listed := []int{9, 8, 7, 0, 1, 2, 3, 4}
	want := [8]int{5, 5, 5, 0, 1, 2, 3, 4}
	follows(t, "one by one", plan(5, 1, 9, 8, 7, 0, 1, 2, 3, 4), 1, want)
	follows(t, "a list", plan(5, 1, listed...), 1, want)
}
