package queue_test

import (
	"math"
	"slices"
	"testing"

	"cordon/api"
	"cordon/queue"
)

const (
	mostTime = 1 << 40
	mostMark = 1<<40 + 1<<20
	allBits  = math.MaxUint64
)

func in(time, key, value int, label uint64) api.Input {
	return api.Input{Event: api.Event{Time: time, Key: key, Value: value, Label: label}}
}

// nth tells an input that no other n has; each third one is a mark.
func nth(n int) api.Input {
	made := in(n+1, n%256, -n, uint64(n)+1)
	made.Mark = n%3 == 2
	return made
}

// numbered tells those from number from on, ahead of number to.
func numbered(from, to int) []api.Input {
	var ins []api.Input
	for n := from; n < to; n++ {
		ins = append(ins, nth(n))
	}
	return ins
}

// wrong is what tests write over memory with: none of what they lay into queues is the same.
func wrong() api.Input { return in(-99, -99, -99, 99) }

// spoil writes over a list, and over the room behind it.
func spoil(ins []api.Input) {
	ins = ins[:cap(ins)]
	for i := range ins {
		ins[i] = wrong()
	}
}

// of makes a queue in which so many wait, from number 0 on.
func of(n int) queue.Queue {
	var q queue.Queue
	q.Push(n, numbered(0, n)...)
	return q
}

// worn makes the same one behind pushes and pops, so that there is room on both sides of what waits.
func worn(n int) queue.Queue {
	var q queue.Queue
	for i := range 7 {
		q.Push(math.MaxInt, in(i, 0, 0, 1), in(i, 1, 1, 2))
	}
	q.Pop(9)
	q.Push(math.MaxInt, numbered(0, n)...)
	q.Pop(5)
	return q
}

// makers make queues in which so many wait, in several ways.
func makers() []func(int) queue.Queue {
	return []func(int) queue.Queue{
		of,
		worn,
		func(n int) queue.Queue { return of(n).Split() },
		func(n int) queue.Queue { return worn(n).Split() },
	}
}

func same(t *testing.T, what string, got, want []api.Input) {
	t.Helper()
	if !slices.Equal(got, want) {
		t.Errorf("%s: %v; want %v", what, got, want)
	}
}

// asked is what a queue, and a type that embeds one, can be asked.
type asked interface {
	Waiting() int
	All() []api.Input
}

// holds asks for what waits, and that Waiting is as many.
func holds(t *testing.T, what string, q asked, want ...api.Input) {
	t.Helper()
	same(t, what, q.All(), want)
	if q.Waiting() != len(want) {
		t.Errorf("%s: Waiting %d; want %d", what, q.Waiting(), len(want))
	}
}

func TestRuns(t *testing.T) {
	var q queue.Queue
	if !q.Push(3, nth(0), nth(1)) {
		t.Error("2 with room 3")
	}
	if q.Push(3, nth(2), nth(3)) {
		t.Error("2 more")
	}
	same(t, "Pop(1)", q.Pop(1), numbered(0, 1))
	if !q.Push(3, nth(2), nth(3)) {
		t.Error("2 more, behind Pop(1)")
	}
	if q.Waiting() != 3 {
		t.Error("Waiting", q.Waiting())
	}
	holds(t, "behind the runs", q, numbered(1, 4)...)
}

// The zero one

func TestZeroIsEmpty(t *testing.T) {
	var q queue.Queue
	holds(t, "zero", q)
	holds(t, "zero, split", q.Split())
	holds(t, "written out", queue.Queue{})
	for _, n := range []int{0, 1, 2, -1, math.MinInt, math.MaxInt} {
		same(t, "popped", q.Pop(n), nil)
		holds(t, "zero, popped", q)
	}
	if !q.Push(0) || q.Push(0, nth(0)) || q.Push(-1) {
		t.Error("zero, pushed")
	}
	holds(t, "zero, still", q)
	if !q.Push(1, nth(0)) {
		t.Error("zero, pushed one")
	}
	holds(t, "no longer", q, nth(0))
}

// TestZeroOnesAreApart: what is pushed into one isn't in another.
func TestZeroOnesAreApart(t *testing.T) {
	var q, other queue.Queue
	q.Push(2, nth(0))
	holds(t, "the other", other)
	other.Push(2, nth(1), nth(2))
	q.Pop(1)
	holds(t, "the other", other, numbered(1, 3)...)
	holds(t, "this one", q)
}

// P12.1: Push

// roomsAround tells rooms at all ends, and about so many.
func roomsAround(n int) []int {
	rooms := []int{math.MinInt, math.MinInt + 1, math.MinInt32, -2, -1, 0, 1, math.MaxInt32, 1 << 32, 1<<32 + 1, math.MaxInt - 1, math.MaxInt}
	for by := -6; by <= 6; by++ {
		rooms = append(rooms, n+by)
	}
	return rooms
}

// TestPushEach lays every small number of inputs behind every small number that wait, with every room.
func TestPushEach(t *testing.T) {
	for _, maker := range makers() {
		for wait := range 6 {
			for more := range 6 {
				for _, room := range roomsAround(wait + more) {
					q := maker(wait)
					fits := room >= wait+more
					if q.Push(room, numbered(wait, wait+more)...) != fits {
						t.Errorf("%d behind %d, room %d: %v", more, wait, room, !fits)
					}
					if fits {
						holds(t, "pushed", q, numbered(0, wait+more)...)
					} else {
						holds(t, "refused", q, numbered(0, wait)...)
					}
				}
			}
		}
	}
}

// TestPushOfNone: with room for what waits it is true, though nothing comes; without it is false, though nothing would.
func TestPushOfNone(t *testing.T) {
	for wait := range 4 {
		for _, room := range roomsAround(wait) {
			q := of(wait)
			fits := room >= wait
			if q.Push(room) != fits || q.Push(room, nil...) != fits || q.Push(room, []api.Input{}...) != fits || q.Push(room, numbered(5, 9)[:0]...) != fits {
				t.Errorf("none behind %d, room %d: not %v", wait, room, fits)
			}
			holds(t, "none pushed", q, numbered(0, wait)...)
		}
	}
}

// TestPushRoomIsOfEachCall: what an elder call was given as room plays no part.
func TestPushRoomIsOfEachCall(t *testing.T) {
	var q queue.Queue
	for i, step := range []struct {
		room, more, wait int
		ok               bool
	}{
		{16, 3, 3, true}, {3, 1, 3, false}, {4, 1, 4, true}, {2, 0, 4, false}, {4, 0, 4, true}, {-5, 1, 4, false}, {math.MaxInt, 5, 9, true},
		{9, 0, 9, true}, {8, 0, 9, false}, {10, 2, 9, false}, {11, 2, 11, true}, {0, 0, 11, false}, {math.MinInt, 0, 11, false}, {12, 1, 12, true},
	} {
		if q.Push(step.room, numbered(q.Waiting(), q.Waiting()+step.more)...) != step.ok {
			t.Error(i, step)
		}
		holds(t, "step by step", q, numbered(0, step.wait)...)
	}
}

// TestPushAllOrNone: of those that are one too many not even the first waits, and the next ones stand where they would have.
func TestPushAllOrNone(t *testing.T) {
	for _, maker := range makers() {
		for more := 1; more < 9; more++ {
			q := maker(3)
			for range 3 {
				if q.Push(3+more-1, slices.Repeat([]api.Input{wrong()}, more)...) {
					t.Error("one too many", more)
				}
				holds(t, "refused", q, numbered(0, 3)...)
				holds(t, "refused, split", q.Split(), numbered(0, 3)...)
			}
			if !q.Push(3+more, numbered(3, 3+more)...) {
				t.Error("just all", more)
			}
			q.Push(0, wrong())
			same(t, "first ones", q.Pop(2), numbered(0, 2))
			q.Push(more, wrong())
			same(t, "all others", q.Pop(math.MaxInt), numbered(2, 3+more))
			holds(t, "behind them", q)
		}
	}
}

// TestPushAgain: a room that is refused is there when enough went out.
func TestPushAgain(t *testing.T) {
	q := of(5)
	for out := range 4 {
		if q.Push(5, numbered(5, 8)...) != (out == 3) {
			t.Error("behind", out)
		}
		if out < 3 {
			holds(t, "refused", q, numbered(out, 5)...)
			q.Pop(1)
		}
	}
	holds(t, "pushed", q, numbered(3, 8)...)
}

// TestPushAtOnceAndOneByOne comes to the same, as a list written out does.
func TestPushAtOnceAndOneByOne(t *testing.T) {
	var atOnce, oneByOne, written queue.Queue
	if !atOnce.Push(5, numbered(0, 5)...) || !written.Push(5, nth(0), nth(1), nth(2), nth(3), nth(4)) {
		t.Error("at once")
	}
	for n := range 5 {
		if !oneByOne.Push(n+1, nth(n)) || oneByOne.Push(n+1, nth(n)) {
			t.Error("one by one", n)
		}
	}
	for _, q := range []queue.Queue{atOnce, oneByOne, written} {
		holds(t, "all the same", q, numbered(0, 5)...)
	}
}

// P12.1: Pop, Waiting, All

// TestPopEach takes every small number, and such as are at all ends, of every small number that wait.
func TestPopEach(t *testing.T) {
	for _, maker := range makers() {
		for wait := range 7 {
			for _, n := range roomsAround(wait) {
				q := maker(wait)
				out := 0
				if n > 0 {
					out = min(n, wait)
				}
				same(t, "popped", q.Pop(n), numbered(0, out))
				holds(t, "what stays", q, numbered(out, wait)...)
				same(t, "none", q.Pop(0), nil)
				same(t, "all others", q.Pop(wait-out), numbered(out, wait))
				holds(t, "nothing", q)
			}
		}
	}
}

// TestPopGoesOn: one behind the other, till nothing waits, and beyond.
func TestPopGoesOn(t *testing.T) {
	for _, maker := range makers() {
		q := maker(10)
		from := 0
		for i, n := range []int{1, 0, -3, 4, 1, math.MinInt, 2, 5, 5, 1, math.MaxInt, -1, 0} {
			to := from + min(max(n, 0), 10-from)
			same(t, "popped", q.Pop(n), numbered(from, to))
			holds(t, "what stays", q, numbered(to, 10)...)
			if from = to; i > 6 && from != 10 {
				t.Error("not all", from)
			}
		}
		if !q.Push(2, numbered(10, 12)...) {
			t.Error("behind all")
		}
		holds(t, "again", q, numbered(10, 12)...)
		same(t, "popped again", q.Pop(2), numbered(10, 12))
	}
}

// TestNoneIsNoList: of none there is nothing to write over, in no spare room either.
func TestNoneIsNoList(t *testing.T) {
	for _, maker := range makers() {
		q := maker(3)
		for _, n := range []int{0, -1, math.MinInt} {
			if none := q.Pop(n); len(none) != 0 || cap(none) != 0 {
				t.Error("Pop", n, none)
			}
		}
		q.Pop(3)
		if none, all := q.Pop(1), q.All(); cap(none) != 0 || cap(all) != 0 {
			t.Error("of an empty one", none, all)
		}
	}
}

func TestAskingChangesNothing(t *testing.T) {
	for _, maker := range makers() {
		q := maker(4)
		for range 3 {
			holds(t, "asked", q, numbered(0, 4)...)
			holds(t, "asked of a split one", q.Split(), numbered(0, 4)...)
		}
		same(t, "popped", q.Pop(4), numbered(0, 4))
		holds(t, "empty", q)
	}
}

// New memory

// TestAnswersAreNewMemory: whatever is written over them, what waits, and what was told ahead of it and is told later, stays.
func TestAnswersAreNewMemory(t *testing.T) {
	for _, maker := range makers() {
		q := maker(9)
		kept := [][]api.Input{q.Pop(2), q.All(), q.Pop(3), q.All()}
		want := [][]api.Input{numbered(0, 2), numbered(2, 9), numbered(2, 5), numbered(5, 9)}
		check := func(what string) {
			t.Helper()
			for i := range kept {
				same(t, what, kept[i], want[i])
			}
			holds(t, what, q, numbered(5, 9)...)
		}
		check("told")
		spoil(q.All())
		check("All")
		spoil(q.Pop(0))
		spoil(q.Pop(-1))
		check("Pop of none")
		for len(kept) > 0 {
			last := kept[len(kept)-1]
			kept, want = kept[:len(kept)-1], want[:len(want)-1]
			spoil(last)
			check("elder ones")
		}
		spoil(q.Pop(2))
		holds(t, "Pop", q, numbered(7, 9)...)
		q.Push(9, numbered(9, 12)...)
		same(t, "all others", q.Pop(9), numbered(7, 12))
	}
}

// TestAnswersStay: what was told doesn't change when the queue does.
func TestAnswersStay(t *testing.T) {
	for _, maker := range makers() {
		q := maker(6)
		all, some, rest := q.All(), q.Pop(2), q.All()
		split := q.Split()
		for range 20 {
			q.Push(math.MaxInt, wrong(), wrong())
			q.Pop(1)
			split.Pop(1)
			split.Push(math.MaxInt, wrong(), wrong(), wrong())
			_ = append(q.All(), wrong())
		}
		same(t, "All", all, numbered(0, 6))
		same(t, "Pop", some, numbered(0, 2))
		same(t, "All behind Pop", rest, numbered(2, 6))
	}
}

// TestAppendToAnswers: the room behind an answer is its own, whoever else appends.
func TestAppendToAnswers(t *testing.T) {
	for n := range 12 {
		q := of(n + 3)
		a, b, c := q.Pop(n), q.All(), q.All()
		_, _, _ = append(a, wrong()), append(b, wrong()), append(c, wrong())
		same(t, "popped", a, numbered(0, n))
		same(t, "all", b, numbered(n, n+3))
		q.Push(99, numbered(n+3, n+5)...)
		_, _ = append(b, wrong(), wrong()), append(c, wrong(), wrong())
		holds(t, "what waits", q, numbered(n, n+5)...)
	}
}

// TestAnswersAreNoCopys: a copy by = shares with its queue, but writing over what one of them told turns neither.
func TestAnswersAreNoCopys(t *testing.T) {
	for _, maker := range makers() {
		q := maker(9)
		shared := q
		for i, x := range []*queue.Queue{&q, &shared, &q, &shared} {
			gone := x.Pop(i)
			left, right := q.All(), shared.All()
			spoil(gone)
			spoil(x.All())
			holds(t, "original", q, left...)
			holds(t, "copied", shared, right...)
		}
	}
}

// What is handed in

// TestHandedInStays: the list, and the room behind it, whatever is done to the queue and to what it tells.
func TestHandedInStays(t *testing.T) {
	for _, maker := range makers() {
		for _, wait := range []int{0, 3} {
			list := numbered(wait, wait+6)
			q := maker(wait)
			if q.Push(wait+2, list[:3]...) || !q.Push(wait+3, list[:3]...) {
				t.Error("pushed")
			}
			same(t, "refused and pushed", list, numbered(wait, wait+6))
			q.Push(99, wrong(), wrong(), wrong())
			split := q.Split()
			split.Pop(1)
			split.Push(99, wrong(), wrong())
			spoil(q.All())
			spoil(q.Pop(wait + 2))
			spoil(split.All())
			q.Push(99, wrong())
			spoil(q.Pop(99))
			same(t, "used", list, numbered(wait, wait+6))
		}
	}
}

// TestHandedInIsNotKept: writing over it, and over the room behind it, turns nothing that waits.
func TestHandedInIsNotKept(t *testing.T) {
	for _, maker := range makers() {
		for wait := range 4 {
			for more := range 6 {
				list := append(slices.Grow([]api.Input(nil), more+4), numbered(wait, wait+more)...)
				q := maker(wait)
				q.Push(99, list...)
				split := q.Split()
				spoil(list)
				holds(t, "written over", q, numbered(0, wait+more)...)
				holds(t, "written over, split", split, numbered(0, wait+more)...)
				q.Push(99, nth(wait+more))
				spoil(list)
				same(t, "popped", q.Pop(99), numbered(0, wait+more+1))
			}
		}
	}
}

// TestOneListIntoMany: those that were handed one list are apart.
func TestOneListIntoMany(t *testing.T) {
	list := numbered(0, 4)
	var a, b, c queue.Queue
	a.Push(9, list...)
	b.Push(9, list...)
	c.Push(9, a.All()...)
	a.Push(9, nth(4))
	b.Push(9, wrong())
	c.Pop(2)
	c.Push(9, wrong(), wrong())
	holds(t, "first", a, numbered(0, 5)...)
	holds(t, "second", b, append(numbered(0, 4), wrong())...)
	holds(t, "third", c, nth(2), nth(3), wrong(), wrong())
	a.Push(20, a.All()...)
	holds(t, "behind itself", a, slices.Repeat(numbered(0, 5), 2)...)
}

// P12.1: Split

// touches are ways of doing something to a queue.
func touches() []func(q *queue.Queue) {
	return []func(q *queue.Queue){
		func(q *queue.Queue) { q.Pop(1) },
		func(q *queue.Queue) { q.Pop(2); q.Push(99, wrong()) },
		func(q *queue.Queue) { q.Push(99, wrong()) },
		func(q *queue.Queue) { q.Push(99, wrong(), wrong(), wrong()); q.Pop(1) },
		func(q *queue.Queue) { q.Pop(99) },
		func(q *queue.Queue) { q.Pop(99); q.Push(99, slices.Repeat([]api.Input{wrong()}, 9)...) },
		func(q *queue.Queue) { spoil(q.All()); spoil(q.Pop(2)) },
		func(q *queue.Queue) {
			for range 30 {
				q.Push(99, wrong())
				q.Pop(1)
			}
		},
		func(q *queue.Queue) { *q = queue.Queue{} },
		func(q *queue.Queue) { *q = of(9) },
	}
}

// TestSplitIsTheSame, and goes on alike.
func TestSplitIsTheSame(t *testing.T) {
	for _, maker := range makers() {
		for wait := range 6 {
			q := maker(wait)
			split := q.Split()
			holds(t, "split", split, numbered(0, wait)...)
			for i, x := range []*queue.Queue{&split, &q} {
				if x.Push(wait+1, nth(wait), nth(wait+1)) || !x.Push(wait+2, nth(wait), nth(wait+1)) {
					t.Error("room", i)
				}
				same(t, "popped", x.Pop(wait), numbered(0, wait))
				holds(t, "goes on", x, numbered(wait, wait+2)...)
			}
		}
	}
}

// TestSplitsAreApart: of a queue and a split one neither sees what is done to the other, whichever is touched.
func TestSplitsAreApart(t *testing.T) {
	for _, maker := range makers() {
		for wait := range 5 {
			for i, touch := range touches() {
				for _, turned := range []bool{false, true} {
					q := maker(wait)
					split := q.Split()
					touched, left := &split, &q
					if turned {
						touched, left = left, touched
					}
					touch(touched)
					holds(t, "left", left, numbered(0, wait)...)
					if !left.Push(wait+1, nth(wait)) {
						t.Error("room", i, wait)
					}
					touch(touched)
					holds(t, "left, pushed", left, numbered(0, wait+1)...)
					same(t, "left, popped", left.Pop(99), numbered(0, wait+1))
				}
			}
		}
	}
}

// TestSplitStaysAsItWas: what one queue does later, step by step, is in none that was split of it.
func TestSplitStaysAsItWas(t *testing.T) {
	var q queue.Queue
	var splits []queue.Queue
	for n := range 12 {
		splits = append(splits, q.Split())
		q.Push(99, nth(n))
	}
	for range 12 {
		q.Pop(1)
		q.Push(99, wrong())
	}
	for n, split := range splits {
		holds(t, "split", split, numbered(0, n)...)
	}
}

// TestSplitIsApartFromCopies: what copies by = do to the memory that they share isn't in a split one.
func TestSplitIsApartFromCopies(t *testing.T) {
	for _, maker := range makers() {
		for wait := range 20 {
			q := maker(wait)
			shared := q
			q.Push(99, nth(wait))
			split := q.Split()
			shared.Push(99, wrong(), wrong())
			q.Pop(1)
			shared.Pop(2)
			q.Push(99, wrong())
			holds(t, "split", split, numbered(0, wait+1)...)
		}
	}
}

// TestSeveralSplits: all of one, and each of the one ahead, in each of which other ones wait in the end.
func TestSeveralSplits(t *testing.T) {
	for _, maker := range makers() {
		first := maker(5)
		qs := []queue.Queue{first, first.Split(), first.Split(), first.Split()}
		for range 3 {
			qs = append(qs, qs[len(qs)-1].Split())
		}
		for round := range 3 {
			for i := range qs {
				if !qs[i].Push(99, in(round, 0, i, 1)) {
					t.Error("room", i)
				}
			}
			for i := range qs {
				same(t, "popped", qs[i].Pop(1), numbered(round, round+1))
			}
		}
		for i := range qs {
			holds(t, "each", qs[i], nth(3), nth(4), in(0, 0, i, 1), in(1, 0, i, 1), in(2, 0, i, 1))
		}
	}
}

// TestSplitOfEmpties: the zero one, and such as nothing waits in any more.
func TestSplitOfEmpties(t *testing.T) {
	for _, maker := range makers() {
		for _, wait := range []int{0, 1, 5} {
			q := maker(wait)
			q.Pop(wait)
			split := q.Split()
			holds(t, "split", split)
			split.Push(3, nth(0), nth(1))
			holds(t, "left", q)
			q.Push(1, wrong())
			holds(t, "split, pushed", split, numbered(0, 2)...)
			holds(t, "left, pushed", q, wrong())
		}
	}
}

// P12.2

// odd are inputs that no pipe would take, marks with all fields set, equal ones: a queue asks nothing of them.
func odd() []api.Input {
	var ins []api.Input
	for _, n := range []int{0, 1, -1, 255, 256, 1 << 32, mostTime, mostTime + 1, mostMark, mostMark + 1, math.MaxInt, math.MinInt} {
		for _, mark := range []bool{false, true} {
			for _, e := range []api.Event{{}, {Time: n}, {Key: n}, {Value: n}, {Label: uint64(n)}, {Time: n, Key: n, Value: n, Label: allBits}, {Time: -n, Key: 3, Value: n, Label: 1 << 63}} {
				ins = append(ins, api.Input{Mark: mark, Event: e})
			}
		}
	}
	return append(ins, ins...)
}

// TestWhatComesGoes: field by field, in whatever pieces they are pushed and popped.
func TestWhatComesGoes(t *testing.T) {
	ins := odd()
	for more := 1; more <= 20; more++ {
		for n := 1; n <= 20; n++ {
			var q queue.Queue
			var gone []api.Input
			for piece := range slices.Chunk(ins, more) {
				if !q.Push(len(ins), piece...) {
					t.Fatal("room", more, n)
				}
				gone = append(gone, q.Pop(n)...)
			}
			// So many times are enough, and end even if Pop leaves all as it was.
			for range ins {
				gone = append(gone, q.Pop(n)...)
			}
			same(t, "gone", gone, ins)
			holds(t, "behind all", q)
		}
	}
}

// TestEqualOnes: the same input as often as it came.
func TestEqualOnes(t *testing.T) {
	var q queue.Queue
	for range 5 {
		q.Push(9, nth(3))
	}
	q.Push(9, nth(4), nth(3))
	holds(t, "all", q, nth(3), nth(3), nth(3), nth(3), nth(3), nth(4), nth(3))
	same(t, "popped", q.Pop(4), slices.Repeat([]api.Input{nth(3)}, 4))
	same(t, "all others", q.Pop(4), []api.Input{nth(3), nth(4), nth(3)})
}

// stream is a queue, and the numbers between which its inputs are to be: it needs no list to say what waits.
type stream struct {
	q        queue.Queue
	from, to int
}

// numbers tells numbers that look like chance, the same ones for a seed.
func numbers(seed uint64) func(n int) int {
	return func(n int) int {
		seed = seed*6364136223846793005 + 1442695040888963407
		return int(seed >> 33 % uint64(n))
	}
}

// push asks for some more, with a room that is enough or just not.
func (s *stream) push(t *testing.T, next func(int) int) {
	t.Helper()
	more := next(8)
	room := s.to - s.from + more + next(5) - 2
	fits := room >= s.to-s.from+more
	if s.q.Push(room, numbered(s.to, s.to+more)...) != fits {
		t.Fatalf("%d behind %d, room %d: %v", more, s.to-s.from, room, !fits)
	}
	if fits {
		s.to += more
	}
}

// pop asks for some, which may be more than wait.
func (s *stream) pop(t *testing.T, next func(int) int) {
	t.Helper()
	n := next(8) - 1
	out := min(max(n, 0), s.to-s.from)
	gone := s.q.Pop(n)
	same(t, "popped", gone, numbered(s.from, s.from+out))
	s.from += out
	spoil(gone)
}

// TestLongRuns: calls of all kinds to several queues, some of which are split of others on the way.
func TestLongRuns(t *testing.T) {
	empty, deep := 0, 0
	for seed := range 40 {
		next := numbers(uint64(seed))
		streams := make([]stream, 4)
		for range 600 {
			s := &streams[next(len(streams))]
			switch next(9) {
			case 0, 1, 2, 3:
				s.push(t, next)
			case 4, 5, 6:
				s.pop(t, next)
			case 7:
				spoil(s.q.All())
			default:
				streams[next(len(streams))] = stream{s.q.Split(), s.from, s.to}
			}
			for i := range streams {
				holds(t, "long runs", streams[i].q, numbered(streams[i].from, streams[i].to)...)
			}
			if t.Failed() {
				t.Fatal("seed", seed)
			}
			if s.q.Waiting() == 0 {
				empty++
			} else if s.q.Waiting() > 16 {
				deep++
			}
		}
	}
	if empty < 1000 || deep < 1000 {
		t.Error("empty", empty, "deep", deep)
	}
}

// TestManyWait: far more than a tenant may have, one by one and in great pieces.
func TestManyWait(t *testing.T) {
	const most = 100_000
	var q queue.Queue
	if q.Push(most-1, numbered(0, most)...) || !q.Push(most, numbered(0, most)...) || q.Push(most, nth(0)) {
		t.Fatal("room", q.Waiting())
	}
	for n := range most / 2 {
		if gone := q.Pop(1); len(gone) != 1 || gone[0] != nth(n) || q.Waiting() != most-n-1 {
			t.Fatal("one by one", n, gone)
		}
	}
	for n := range most / 4 {
		if !q.Push(most, nth(most+n)) {
			t.Fatal("one by one", n)
		}
	}
	same(t, "a great piece", q.Pop(most/2), numbered(most/2, most))
	same(t, "what is left", q.Pop(most), numbered(most, most+most/4))
	holds(t, "nothing", q)
}

// Ways: others embed a Queue, and its inputs are variadic.

type lane struct {
	name string
	queue.Queue
	open bool
}

type road struct {
	*lane
	left queue.Queue
}

func TestEmbedded(t *testing.T) {
	l := lane{name: "north", open: true}
	holds(t, "zero", l)
	if !l.Push(3, nth(0), nth(1)) || l.Push(3, nth(2), nth(3)) {
		t.Error("promoted Push", l)
	}
	same(t, "promoted Pop", l.Pop(1), numbered(0, 1))
	if !l.Push(3, nth(2), nth(3)) || l.Waiting() != 3 {
		t.Error("promoted Push", l)
	}
	holds(t, "promoted", l, numbered(1, 4)...)
	holds(t, "its own", l.Queue, numbered(1, 4)...)
	if l.name != "north" || !l.open {
		t.Error("other fields", l)
	}
}

// TestEmbeddedSplit: a copy of the outer one whose queue is a split one is apart from it.
func TestEmbeddedSplit(t *testing.T) {
	var l lane
	l.Push(9, numbered(0, 3)...)
	twin := lane{name: "twin", Queue: l.Split()}
	l.Pop(2)
	l.Push(9, wrong(), wrong())
	twin.Push(9, nth(3))
	holds(t, "twin", twin, numbered(0, 4)...)
	holds(t, "original", l, nth(2), wrong(), wrong())
}

// TestEmbeddedTwice: promoted through a pointer, beside another queue.
func TestEmbeddedTwice(t *testing.T) {
	r := road{lane: &lane{}}
	r.Push(2, nth(0), nth(1))
	r.left.Push(2, nth(7))
	same(t, "promoted", r.Pop(1), numbered(0, 1))
	holds(t, "inner", r.lane.Queue, nth(1))
	holds(t, "beside", r.left, nth(7))
}

// TestAsMethodValues: Push and Pop of a pointer go on with one queue.
func TestAsMethodValues(t *testing.T) {
	q := new(queue.Queue)
	push, pop := q.Push, q.Pop
	if !push(2, nth(0)) || !push(2, nth(1)) || push(2, nth(2)) {
		t.Error("push")
	}
	same(t, "pop", pop(1), numbered(0, 1))
	holds(t, "one queue", q, nth(1))
	holds(t, "of a value", q.Split().Split(), nth(1))
}
