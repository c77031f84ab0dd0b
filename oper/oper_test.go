package oper_test

import (
	"math"
	"math/big"
	"slices"
	"testing"

	"cordon/api"
	"cordon/oper"
)

// ints holds numbers of all kinds: the ends of int, the ends of narrower kinds, the limits, and their neighbours.
var ints = []int{
	math.MinInt, math.MinInt + 1, -1 << 62, -1 << 40, math.MinInt32 - 1, math.MinInt32,
	-257, -256, -255, -7, -3, -2, -1, 0, 1, 2, 3, 5, 6, 7, 254, 255, 256, 257,
	math.MaxInt32, math.MaxInt32 + 1, 1 << 32, 1<<32 + 1, 1 << 40, 1 << 62, math.MaxInt - 1, math.MaxInt,
}

var kinds = []int{api.OAdd, api.OMul, api.OKey, api.OAbove, api.OBelow, api.OOnly}

// noKinds holds numbers that are no Kind: those next to the ends, and some that would be one in a narrower kind.
var noKinds = []int{
	0, -1, 7, 8, -2, -6, 255, 256, 257, 1<<8 + 3, 1<<16 + 1, 1<<32 + 1, 1<<32 + 6, -1 << 32, math.MinInt, math.MinInt + 1, math.MaxInt,
}

func op(kind, n int) api.Op { return api.Op{Kind: kind, N: n} }

// of makes an event whose Time and Label are like nothing else in the tests.
func of(key, value int) api.Event {
	return api.Event{Time: 1234, Key: key, Value: value, Label: 1<<63 | 5}
}

// round takes a number that has no ends to the one of 64 bits, two's complement, that it goes round to.
func round(n *big.Int) int {
	turn := new(big.Int).Lsh(big.NewInt(1), 64)
	n = new(big.Int).Mod(n, turn)
	if n.Bit(63) == 1 {
		n.Sub(n, turn)
	}
	return int(n.Int64())
}

// slowApply works out what an operation makes of an event, by a way of its own.
func slowApply(o api.Op, e api.Event) (api.Event, bool) {
	value, n := big.NewInt(int64(e.Value)), big.NewInt(int64(o.N))
	want := e
	ok := false
	switch o.Kind {
	case 1:
		want.Value, ok = round(value.Add(value, n)), true
	case 2:
		want.Value, ok = round(value.Mul(value, n)), true
	case 3:
		if n.Sign() > 0 {
			want.Key, ok = int(value.Mod(value, n).Int64()), true
		}
	case 4:
		ok = value.Cmp(n) > 0
	case 5:
		ok = value.Cmp(n) < 0
	case 6:
		ok = e.Key == o.N
	}
	if !ok {
		return api.Event{}, false
	}
	return want, true
}

func checkApply(t *testing.T, o api.Op, e, want api.Event, ok bool) {
	t.Helper()
	if got, is := oper.Apply(o, e); got != want || is != ok {
		t.Errorf("Apply(%v, %v): %v, %v; want %v, %v", o, e, got, is, want, ok)
	}
}

func checkRun(t *testing.T, e api.Event, l []api.Op, want api.Event, ok bool) {
	t.Helper()
	if got, is := oper.Run(e, l...); got != want || is != ok {
		t.Errorf("Run(%v, %v): %v, %v; want %v, %v", e, l, got, is, want, ok)
	}
}

func TestRuns(t *testing.T) {
	l := []api.Op{op(api.OMul, 3), op(api.OKey, 5), op(api.OAbove, 20)}
	if e, ok := oper.Run(api.Event{Value: 7}, l...); !ok || e != (api.Event{Value: 21, Key: 1}) {
		t.Error("Value 7 by OMul 3, OKey 5, OAbove 20", e, ok)
	}
	if e, ok := oper.Run(api.Event{Value: 7}, op(api.OBelow, 7)); ok || e != (api.Event{}) {
		t.Error("Value 7 by OBelow 7", e, ok)
	}
	if e, ok := oper.Run(api.Event{Value: -1}, op(api.OKey, 5)); !ok || e != (api.Event{Value: -1, Key: 4}) {
		t.Error("OKey 5 of Value -1", e, ok)
	}
}

// P5.1

func TestRightOrdinary(t *testing.T) {
	for _, q := range []struct {
		l    []api.Op
		want bool
	}{
		{nil, true},
		{[]api.Op{}, true},
		{[]api.Op{op(api.OAdd, 1)}, true},
		{[]api.Op{op(api.OAdd, 1), op(api.OMul, 2), op(api.OKey, 3), op(api.OAbove, 4), op(api.OBelow, 5), op(api.OOnly, 6)}, true},
		{[]api.Op{op(api.OOnly, 6), op(api.OBelow, 5), op(api.OAbove, 4), op(api.OKey, 3), op(api.OMul, 2), op(api.OAdd, 1)}, true},
		{[]api.Op{op(api.OKey, 4), op(api.OKey, 4), op(api.OOnly, 1), op(api.OOnly, 1)}, true},
		{[]api.Op{{}}, false},
		{[]api.Op{op(api.OKey, 0)}, false},
		{[]api.Op{op(api.OKey, 1)}, true},
		{[]api.Op{op(api.OKey, 255)}, true},
		{[]api.Op{op(api.OKey, 256)}, true},
		{[]api.Op{op(api.OKey, 257)}, false},
		{[]api.Op{op(api.OKey, -1)}, false},
		{[]api.Op{op(api.OOnly, -1)}, false},
		{[]api.Op{op(api.OOnly, 0)}, true},
		{[]api.Op{op(api.OOnly, 254)}, true},
		{[]api.Op{op(api.OOnly, 255)}, true},
		{[]api.Op{op(api.OOnly, 256)}, false},
	} {
		if got := oper.Right(q.l...); got != q.want {
			t.Errorf("Right(%v): %v", q.l, got)
		}
	}
	if !oper.Right() {
		t.Error("Right()")
	}
}

// TestRightEach lays every number beside every Kind.
func TestRightEach(t *testing.T) {
	keys := []int{1, 2, 3, 5, 6, 7, 254, 255, 256}
	onlys := []int{0, 1, 2, 3, 5, 6, 7, 254, 255}
	for _, n := range ints {
		for _, kind := range []int{api.OAdd, api.OMul, api.OAbove, api.OBelow} {
			if !oper.Right(op(kind, n)) {
				t.Error(kind, n)
			}
		}
		if oper.Right(op(api.OKey, n)) != slices.Contains(keys, n) {
			t.Error("OKey", n)
		}
		if oper.Right(op(api.OOnly, n)) != slices.Contains(onlys, n) {
			t.Error("OOnly", n)
		}
		for _, kind := range noKinds {
			if oper.Right(op(kind, n)) {
				t.Error(kind, n)
			}
		}
	}
}

func TestRightCounts(t *testing.T) {
	for _, kind := range kinds {
		var l []api.Op
		for n := range 40 {
			if got := oper.Right(l...); got != (n < 7) {
				t.Errorf("%d of Kind %d: %v", n, kind, got)
			}
			l = append(l, op(kind, 9))
		}
	}
}

func TestMostOpsAreOfTheLimits(t *testing.T) {
	l := make([]api.Op, api.MaxOps+1)
	for i := range l {
		l[i] = op(api.OMul, i)
	}
	if !oper.Right(l[:api.MaxOps]...) || oper.Right(l...) {
		t.Error("MaxOps", len(l))
	}
	if !oper.Right(op(api.OKey, api.MaxKey+1)) || oper.Right(op(api.OKey, api.MaxKey+2)) {
		t.Error("OKey at MaxKey + 1")
	}
	if !oper.Right(op(api.OOnly, api.MaxKey)) || oper.Right(op(api.OOnly, api.MaxKey+1)) {
		t.Error("OOnly at MaxKey")
	}
}

// TestRightAsksEachPlace lays one that isn't right into each place of lists of each length.
func TestRightAsksEachPlace(t *testing.T) {
	wrong := []api.Op{
		op(0, 1), op(7, 1), op(-1, 1), op(api.OKey, 0), op(api.OKey, 257), op(api.OKey, -4), op(api.OOnly, -1), op(api.OOnly, 256),
	}
	for size := 1; size <= 6; size++ {
		for place := range size {
			for _, o := range wrong {
				var l []api.Op
				for i := range size {
					l = append(l, op(kinds[i], 5))
				}
				if !oper.Right(l...) {
					t.Error("ahead", l)
				}
				l[place] = o
				if oper.Right(l...) {
					t.Error("one isn't right", l)
				}
			}
		}
	}
}

// P5.2

func TestAddAndMul(t *testing.T) {
	for _, q := range []struct{ kind, n, value, want int }{
		{api.OAdd, 3, 4, 7},
		{api.OAdd, -3, 4, 1},
		{api.OAdd, -5, 4, -1},
		{api.OAdd, 0, 4, 4},
		{api.OAdd, 1, math.MaxInt64, math.MinInt64},
		{api.OAdd, math.MaxInt64, 1, math.MinInt64},
		{api.OAdd, math.MaxInt64, math.MaxInt64, -2},
		{api.OAdd, -1, math.MinInt64, math.MaxInt64},
		{api.OAdd, math.MinInt64, -1, math.MaxInt64},
		{api.OAdd, math.MinInt64, math.MinInt64, 0},
		{api.OAdd, math.MinInt64, math.MaxInt64, -1},
		{api.OAdd, 1, math.MaxInt32, 1 << 31},
		{api.OMul, 3, 4, 12},
		{api.OMul, -3, 4, -12},
		{api.OMul, -3, -4, 12},
		{api.OMul, 0, 4, 0},
		{api.OMul, 1, 4, 4},
		{api.OMul, 4, 0, 0},
		{api.OMul, 2, math.MaxInt64, -2},
		{api.OMul, 2, math.MinInt64, 0},
		{api.OMul, 3, math.MinInt64, math.MinInt64},
		{api.OMul, -1, math.MinInt64, math.MinInt64},
		{api.OMul, math.MinInt64, -1, math.MinInt64},
		{api.OMul, -1, math.MaxInt64, math.MinInt64 + 1},
		{api.OMul, math.MaxInt64, math.MaxInt64, 1},
		{api.OMul, math.MinInt64, math.MinInt64, 0},
		{api.OMul, 2, 1 << 62, math.MinInt64},
		{api.OMul, 4, 1 << 62, 0},
		{api.OMul, 1 << 32, 1 << 32, 0},
		{api.OMul, 1 << 32, 1<<31 - 1, math.MaxInt64 - 1<<32 + 1},
		{api.OMul, 1 << 20, 1 << 20, 1 << 40},
	} {
		checkApply(t, op(q.kind, q.n), of(9, q.value), of(9, q.want), true)
	}
}

func TestKeyOrdinary(t *testing.T) {
	for _, q := range []struct{ n, value, key int }{
		{5, 7, 2}, {5, 5, 0}, {5, 4, 4}, {5, 0, 0}, {5, -1, 4}, {5, -4, 1}, {5, -5, 0}, {5, -6, 4}, {5, -10, 0},
		{1, 7, 0}, {1, -7, 0}, {1, 0, 0}, {1, math.MinInt64, 0}, {1, math.MaxInt64, 0}, {2, -1, 1}, {2, -2, 0},
		{256, 255, 255}, {256, 256, 0}, {256, 257, 1}, {256, -1, 255}, {256, -256, 0}, {256, -257, 255},
		{256, math.MinInt64, 0}, {256, math.MaxInt64, 255}, {3, math.MinInt64, 1}, {3, math.MaxInt64, 1},
		{257, 256, 256}, {math.MaxInt64, -1, math.MaxInt64 - 1}, {math.MaxInt64, math.MinInt64, math.MaxInt64 - 1},
		{math.MaxInt64, math.MaxInt64, 0}, {math.MaxInt64, -math.MaxInt64, 0}, {1 << 62, -1<<62 - 1, 1<<62 - 1},
	} {
		for _, before := range []int{0, 9, 255, -1, math.MinInt} {
			checkApply(t, op(api.OKey, q.n), of(before, q.value), of(q.key, q.value), true)
		}
	}
}

func TestKeyOfNoRemainder(t *testing.T) {
	for _, n := range []int{0, -1, -2, -5, -256, math.MinInt32, -1 << 32, math.MinInt + 1, math.MinInt} {
		for _, value := range ints {
			checkApply(t, op(api.OKey, n), of(9, value), api.Event{}, false)
		}
	}
}

// TestKeysOfRightOnesAreKeys: what a right OKey makes is a Key that may be, and the remainder goes round without a gap.
func TestKeysOfRightOnesAreKeys(t *testing.T) {
	for n := 1; n <= api.MaxKey+1; n++ {
		want := 0
		for value := -3 * n; value < 3*n; value++ {
			checkApply(t, op(api.OKey, n), of(9, value), of(want, value), true)
			want++
			if want == n {
				want = 0
			}
		}
	}
}

func TestAboveAndBelow(t *testing.T) {
	for _, n := range []int{0, 1, -1, 20, -20, math.MaxInt32, math.MinInt32, 1 << 40, math.MinInt + 1, math.MaxInt - 1} {
		above, at, below := of(3, n+1), of(3, n), of(3, n-1)
		checkApply(t, op(api.OAbove, n), above, above, true)
		checkApply(t, op(api.OAbove, n), at, api.Event{}, false)
		checkApply(t, op(api.OAbove, n), below, api.Event{}, false)
		checkApply(t, op(api.OBelow, n), above, api.Event{}, false)
		checkApply(t, op(api.OBelow, n), at, api.Event{}, false)
		checkApply(t, op(api.OBelow, n), below, below, true)
	}
	// At the ends of int a difference would go round.
	least, most := of(3, math.MinInt), of(3, math.MaxInt)
	checkApply(t, op(api.OAbove, math.MinInt), most, most, true)
	checkApply(t, op(api.OAbove, math.MaxInt), least, api.Event{}, false)
	checkApply(t, op(api.OBelow, math.MaxInt), least, least, true)
	checkApply(t, op(api.OBelow, math.MinInt), most, api.Event{}, false)
	for _, value := range ints {
		checkApply(t, op(api.OAbove, math.MaxInt), of(3, value), api.Event{}, false)
		checkApply(t, op(api.OBelow, math.MinInt), of(3, value), api.Event{}, false)
	}
}

// TestOnly: the Key is asked, and never the Value.
func TestOnly(t *testing.T) {
	for _, n := range ints {
		for _, key := range ints {
			for _, value := range []int{n, n + 1, key, 0} {
				e := of(key, value)
				if key == n {
					checkApply(t, op(api.OOnly, n), e, e, true)
				} else {
					checkApply(t, op(api.OOnly, n), e, api.Event{}, false)
				}
			}
		}
	}
}

func TestApplyOfNoKind(t *testing.T) {
	for _, kind := range noKinds {
		for _, n := range ints {
			checkApply(t, op(kind, n), of(n, n), api.Event{}, false)
			checkApply(t, op(kind, n), of(1, 7), api.Event{}, false)
		}
	}
}

// TestApplyEach lays every number beside every Kind, to every Value.
func TestApplyEach(t *testing.T) {
	for _, kind := range append(slices.Clone(kinds), noKinds...) {
		for _, n := range ints {
			for _, value := range ints {
				for _, key := range []int{0, 255, n, value} {
					o, e := op(kind, n), of(key, value)
					want, ok := slowApply(o, e)
					checkApply(t, o, e, want, ok)
				}
			}
		}
	}
}

// P5.3

func TestRunOfNone(t *testing.T) {
	for _, e := range []api.Event{{}, of(1, 7), of(-1, math.MinInt), {Time: -1, Key: 256, Value: 3}} {
		checkRun(t, e, nil, e, true)
		checkRun(t, e, []api.Op{}, e, true)
		if got, ok := oper.Run(e); got != e || !ok {
			t.Error("Run of none", got, ok)
		}
	}
}

// TestRunOfOneIsApply: of one alone a run is that one.
func TestRunOfOneIsApply(t *testing.T) {
	for _, kind := range append(slices.Clone(kinds), noKinds...) {
		for _, n := range ints {
			for _, value := range ints {
				o, e := op(kind, n), of(7, value)
				want, ok := slowApply(o, e)
				checkRun(t, e, []api.Op{o}, want, ok)
			}
		}
	}
}

func TestRunInOrder(t *testing.T) {
	for _, q := range []struct {
		l          []api.Op
		key, value int
	}{
		{[]api.Op{op(api.OAdd, 1), op(api.OMul, 2)}, 9, 16},
		{[]api.Op{op(api.OMul, 2), op(api.OAdd, 1)}, 9, 15},
		{[]api.Op{op(api.OKey, 5), op(api.OAdd, 1)}, 2, 8},
		{[]api.Op{op(api.OAdd, 1), op(api.OKey, 5)}, 3, 8},
		{[]api.Op{op(api.OKey, 5), op(api.OKey, 3)}, 1, 7},
		{[]api.Op{op(api.OKey, 3), op(api.OKey, 5)}, 2, 7},
		{[]api.Op{op(api.OOnly, 9), op(api.OKey, 5), op(api.OOnly, 2)}, 2, 7},
		{[]api.Op{op(api.OBelow, 8), op(api.OAdd, 1), op(api.OAbove, 7)}, 9, 8},
		{[]api.Op{op(api.OAbove, 6), op(api.OMul, -1), op(api.OBelow, -6)}, 9, -7},
		{[]api.Op{op(api.OMul, 3), op(api.OKey, 5), op(api.OAbove, 20), op(api.OBelow, 22), op(api.OOnly, 1), op(api.OAdd, -21)}, 1, 0},
		{[]api.Op{op(api.OAdd, math.MaxInt), op(api.OAdd, math.MaxInt), op(api.OAdd, 2)}, 9, 7},
		{[]api.Op{op(api.OAdd, math.MinInt), op(api.OMul, 2), op(api.OKey, 256)}, 14, 14},
	} {
		checkRun(t, of(9, 7), q.l, of(q.key, q.value), true)
	}
}

// TestRunEnds lays one that says false into each place: the first, the middle ones and the last.
func TestRunEnds(t *testing.T) {
	closed := []api.Op{
		op(api.OAbove, 7), op(api.OBelow, 7), op(api.OOnly, 8), op(api.OKey, 0), op(api.OKey, -5), op(0, 0), op(7, 1), op(-1, 7), {},
	}
	open := []api.Op{
		op(api.OAdd, 0), op(api.OMul, 1), op(api.OOnly, 9), op(api.OAbove, 6), op(api.OBelow, 8), op(api.OAdd, 0),
	}
	for size := 1; size <= len(open); size++ {
		checkRun(t, of(9, 7), open[:size], of(9, 7), true)
		for place := range size {
			for _, o := range closed {
				l := slices.Clone(open[:size])
				l[place] = o
				checkRun(t, of(9, 7), l, api.Event{}, false)
			}
		}
	}
}

// TestRunEndsForGood: what comes behind a false one can't bring the event back.
func TestRunEndsForGood(t *testing.T) {
	checkRun(t, of(9, 7), []api.Op{op(api.OBelow, 7), op(api.OAdd, 1)}, api.Event{}, false)
	checkRun(t, of(9, 7), []api.Op{op(api.OAdd, 1), op(api.OBelow, 8), op(api.OKey, 5)}, api.Event{}, false)
	checkRun(t, of(9, 7), []api.Op{op(api.OBelow, 7), op(api.OOnly, 0), op(api.OBelow, 1)}, api.Event{}, false)
	checkRun(t, of(9, 7), []api.Op{op(0, 0), op(api.OMul, 0)}, api.Event{}, false)
	checkRun(t, of(0, 0), []api.Op{op(api.OAbove, 0), op(api.OOnly, 0)}, api.Event{}, false)
}

// TestRunIsNoRight: a run does what it is given, though no pipe may have so many or such ones.
func TestRunIsNoRight(t *testing.T) {
	var l []api.Op
	for i := range 100 {
		checkRun(t, of(9, 7), l, of(9, 7+i), true)
		l = append(l, op(api.OAdd, 1))
	}
	checkRun(t, of(9, 300), []api.Op{op(api.OKey, 1000)}, of(300, 300), true)
	checkRun(t, of(300, 7), []api.Op{op(api.OOnly, 300)}, of(300, 7), true)
	checkRun(t, of(-3, 7), []api.Op{op(api.OOnly, -3)}, of(-3, 7), true)
}

// TestRunOfAllPairsAndTriples goes through all rows of two and three of some operations.
func TestRunOfAllPairsAndTriples(t *testing.T) {
	var few []api.Op
	for _, kind := range append([]int{0, 7}, kinds...) {
		for _, n := range []int{-3, 0, 2, 5, math.MaxInt, math.MinInt} {
			few = append(few, op(kind, n))
		}
	}
	for _, a := range few {
		for _, b := range few {
			for _, c := range few {
				for _, value := range []int{-7, 4, math.MinInt} {
					l := []api.Op{a, b, c}
					for size := 2; size <= 3; size++ {
						want, ok := of(2, value), true
						for _, o := range l[:size] {
							if ok {
								want, ok = slowApply(o, want)
							}
						}
						checkRun(t, of(2, value), l[:size], want, ok)
					}
				}
			}
		}
	}
}

// P5.4

// TestTimeAndLabelStay asks it of Times and Labels of all kinds, those of no right event too.
func TestTimeAndLabelStay(t *testing.T) {
	all := []api.Op{
		op(api.OAdd, 3), op(api.OMul, -2), op(api.OKey, 5), op(api.OAbove, -100), op(api.OBelow, 100), op(api.OOnly, 0),
	}
	for _, time := range ints {
		for _, label := range []uint64{0, 1, 6, 1 << 31, 1 << 32, 1<<63 - 1, 1 << 63, math.MaxUint64} {
			e := api.Event{Time: time, Key: 0, Value: 7, Label: label}
			for _, o := range all {
				if got, ok := oper.Apply(o, e); !ok || got.Time != time || got.Label != label {
					t.Errorf("Apply(%v, %v): %v, %v", o, e, got, ok)
				}
			}
			if got, ok := oper.Run(e, all...); !ok || got != (api.Event{Time: time, Key: 0, Value: -20, Label: label}) {
				t.Errorf("Run(%v, all): %v, %v", e, got, ok)
			}
			if got, ok := oper.Run(e); !ok || got.Time != time || got.Label != label {
				t.Errorf("Run(%v): %v, %v", e, got, ok)
			}
		}
	}
}

// R2, R4 and R5

func TestRoomBehindIsLeftAlone(t *testing.T) {
	l := []api.Op{op(api.OAdd, 1), op(api.OKey, 5), op(api.OMul, 2), op(0, 0), op(api.OBelow, math.MinInt), op(7, 7), op(8, 8), op(9, 9)}
	kept := slices.Clone(l)
	if !oper.Right(l[:3]...) || !oper.Right(l[3:3]...) {
		t.Error("Right reads behind")
	}
	checkRun(t, of(9, 7), l[:3], of(3, 16), true)
	checkRun(t, of(9, 7), l[3:3], of(9, 7), true)
	oper.Right(l...)
	oper.Run(of(9, 7), l...)
	if !slices.Equal(l, kept) {
		t.Error("changed", l)
	}
}

func TestAskedAgainItSaysTheSame(t *testing.T) {
	l := []api.Op{op(api.OAdd, 1), op(api.OKey, 5), op(api.OAbove, 3)}
	e := of(9, 7)
	for range 3 {
		checkApply(t, l[0], e, of(9, 8), true)
		checkRun(t, e, l, of(3, 8), true)
		checkRun(t, e, append(slices.Clone(l), op(api.OBelow, 0)), api.Event{}, false)
		if e != of(9, 7) {
			t.Error("changed", e)
		}
	}
}
