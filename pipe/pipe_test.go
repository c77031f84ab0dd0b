package pipe_test

import (
	"bytes"
	"math"
	"slices"
	"testing"

	"cordon/api"
	"cordon/pipe"
	"cordon/vint"
)

const (
	mostOps  = 6
	mostKey  = 255
	mostSize = 1 << 20
	none     = -1
)

// ends holds numbers that no field may be: the ends of int, and some that would be right in a narrower kind.
var ends = []int{math.MinInt, math.MinInt + 1, -1 << 32, -1 << 62, 1<<32 - 1, 1 << 32, 1<<32 + 1, 1<<32 + 2, 1<<62 + 1, math.MaxInt - 1, math.MaxInt}

func op(kind, n int) api.Op { return api.Op{Kind: kind, N: n} }

func of(size, slide, agg, sink, feed int, ops ...api.Op) api.Pipe {
	return api.Pipe{Ops: ops, Size: size, Slide: slide, Agg: agg, Sink: sink, Feed: feed}
}

// some is a new pipe at each call, whose fields are all unlike.
func some() api.Pipe { return of(10, 5, 2, 3, 1, op(1, 7), op(6, 4)) }

func copyOf(p api.Pipe) api.Pipe {
	p.Ops = slices.Clone(p.Ops)
	return p
}

// with is some, but for what change does to it.
func with(change func(p *api.Pipe)) api.Pipe {
	p := some()
	change(&p)
	return p
}

// equal holds two pipes against each other field by field.
func equal(p, q api.Pipe) bool {
	if p.Size != q.Size || p.Slide != q.Slide || p.Agg != q.Agg || p.Sink != q.Sink || p.Feed != q.Feed || len(p.Ops) != len(q.Ops) {
		return false
	}
	for i := range p.Ops {
		if p.Ops[i].Kind != q.Ops[i].Kind || p.Ops[i].N != q.Ops[i].N {
			return false
		}
	}
	return true
}

func isZero(p api.Pipe) bool { return equal(p, api.Pipe{}) }

// rights holds pipes that may be, each bound among them.
func rights() []api.Pipe {
	return []api.Pipe{
		some(), of(10, 5, 2, none, none, op(1, 1)),
		of(1, 1, 1, none, none), of(8, 1, 1, none, none), of(mostSize, mostSize/8, 4, none, none), of(mostSize, mostSize, 4, none, none),
		of(10, 10, 2, none, none), of(10, 2, 3, none, none), of(10, 4, 3, none, none), of(16, 2, 1, none, none), of(100, 13, 4, none, none),
		of(10, 5, 1, none, none), of(10, 5, 2, none, none), of(10, 5, 3, none, none), of(10, 5, 4, none, none),
		of(10, 5, 2, 0, none), of(10, 5, 2, 3, none), of(10, 5, 2, none, 0), of(10, 5, 2, none, 3), of(10, 5, 2, 0, 0), of(10, 5, 2, 3, 3), of(10, 5, 2, 1, 2), of(10, 5, 2, 2, 1),
		of(10, 5, 2, none, none, op(1, math.MinInt)), of(10, 5, 2, none, none, op(2, math.MaxInt)), of(10, 5, 2, none, none, op(4, math.MinInt)), of(10, 5, 2, none, none, op(5, math.MaxInt)),
		of(10, 5, 2, none, none, op(3, 1)), of(10, 5, 2, none, none, op(3, mostKey+1)), of(10, 5, 2, none, none, op(6, 0)), of(10, 5, 2, none, none, op(6, mostKey)),
		of(10, 5, 2, none, none, op(1, 0), op(1, 0)), of(10, 5, 2, none, none, op(2, 3), op(3, 5), op(4, 20)),
		of(10, 5, 2, none, none, op(1, 1), op(2, 2), op(3, 3), op(4, 4), op(5, 5), op(6, 6)),
		of(mostSize, mostSize/8, 4, 3, 3, slices.Repeat([]api.Op{op(2, math.MinInt)}, mostOps)...),
	}
}

// wrongs holds pipes that may not be, each by one field, or one Op, alone.
func wrongs() []api.Pipe {
	l := []api.Pipe{
		{}, with(func(p *api.Pipe) { *p = api.Pipe{Ops: p.Ops} }), with(func(p *api.Pipe) { p.Ops = make([]api.Op, mostOps+1) }),
		with(func(p *api.Pipe) { p.Ops = slices.Repeat([]api.Op{op(1, 1)}, mostOps+1) }),
		with(func(p *api.Pipe) { p.Ops = slices.Repeat([]api.Op{op(1, 1)}, 300) }),
	}
	for _, q := range [][2]int{{0, 0}, {0, 1}, {-1, 1}, {10, 0}, {10, -1}, {-10, -5}, {4, 5}, {9, 10}, {9, 1}, {17, 2}, {10, 1}, {mostSize + 1, mostSize + 1}, {mostSize + 1, mostSize}, {mostSize, mostSize/8 - 1}} {
		l = append(l, with(func(p *api.Pipe) { p.Size, p.Slide = q[0], q[1] }))
	}
	for _, o := range []api.Op{op(0, 1), op(-1, 1), op(7, 1), op(3, 0), op(3, -1), op(3, mostKey+2), op(6, -1), op(6, mostKey+1), {}} {
		l = append(l, with(func(p *api.Pipe) { p.Ops = []api.Op{o} }), with(func(p *api.Pipe) { p.Ops[0] = o }), with(func(p *api.Pipe) { p.Ops[1] = o }))
	}
	for _, n := range append([]int{0, -1, 5, 6, 255, 257}, ends...) {
		l = append(l, with(func(p *api.Pipe) { p.Agg = n }))
	}
	for _, n := range append([]int{-2, -3, 4, 5, 8, 255, 256, 65535}, ends...) {
		l = append(l, with(func(p *api.Pipe) { p.Sink = n }), with(func(p *api.Pipe) { p.Feed = n }))
	}
	for _, n := range ends {
		l = append(l, with(func(p *api.Pipe) { p.Size = n }), with(func(p *api.Pipe) { p.Slide = n }), with(func(p *api.Pipe) { p.Ops[1].Kind = n }))
	}
	return l
}

// intsOf is the numbers of a pipe as the chapter lists them, whether it is right or not.
func intsOf(p api.Pipe) []int {
	l := []int{p.Size, p.Slide, p.Agg, p.Sink, p.Feed, len(p.Ops)}
	for _, o := range p.Ops {
		l = append(l, o.Kind, o.N)
	}
	return l
}

// refused asks whether Decode says zero, false.
func refused(t *testing.T, b []byte) {
	t.Helper()
	if p, ok := pipe.Decode(b); ok || !isZero(p) {
		t.Errorf("Decode(%d): %v %t, want zero, false", b, p, ok)
	}
}

func TestRuns(t *testing.T) {
	p := api.Pipe{Size: 10, Slide: 5, Agg: api.ASum, Sink: api.None, Feed: api.None, Ops: []api.Op{{Kind: api.OAdd, N: 1}}}
	b := pipe.Encode(p)
	if !bytes.Equal(b, vint.Put(10, 5, 2, -1, -1, 1, 1, 1)) || !bytes.Equal(b, []byte{20, 10, 4, 1, 1, 2, 2, 2}) {
		t.Error("Encode", b)
	}
	if got, ok := pipe.Decode(b); !ok || !equal(got, p) {
		t.Error("Decode", got, ok)
	}
}

// P9.1

func TestRight(t *testing.T) {
	for i, p := range rights() {
		if !pipe.Right(p) {
			t.Error(i, p)
		}
	}
	for i, p := range wrongs() {
		if pipe.Right(p) {
			t.Error(i, p)
		}
	}
}

func TestRightOfSinkAndFeed(t *testing.T) {
	for n := -300; n <= 300; n++ {
		want := n == -1 || n == 0 || n == 1 || n == 2 || n == 3
		if pipe.Right(of(10, 5, 2, n, none)) != want || pipe.Right(of(10, 5, 2, none, n)) != want || pipe.Right(of(10, 5, 2, n, n)) != want {
			t.Error(n)
		}
	}
}

func TestRightOfAgg(t *testing.T) {
	for n := -300; n <= 300; n++ {
		if pipe.Right(of(10, 5, n, none, none)) != (n == 1 || n == 2 || n == 3 || n == 4) {
			t.Error(n)
		}
	}
}

func TestRightOfSizeAndSlide(t *testing.T) {
	for size := -5; size <= 70; size++ {
		for slide := -5; slide <= 75; slide++ {
			want := slide >= 1 && size >= slide && size <= 8*slide
			if pipe.Right(of(size, slide, 2, none, none)) != want {
				t.Error(size, slide)
			}
		}
	}
	for _, q := range []struct {
		size, slide int
		want        bool
	}{
		{mostSize, mostSize, true}, {mostSize - 1, mostSize, false}, {mostSize + 1, mostSize + 1, false}, {mostSize + 1, mostSize, false},
		{mostSize, mostSize / 8, true}, {mostSize, mostSize/8 - 1, false}, {mostSize - 1, mostSize / 8, true}, {mostSize + 1, mostSize/8 + 1, false},
	} {
		if pipe.Right(of(q.size, q.slide, 2, none, none)) != q.want {
			t.Error(q)
		}
	}
}

func TestRightOfOps(t *testing.T) {
	for n := range 20 {
		if pipe.Right(of(10, 5, 2, none, none, slices.Repeat([]api.Op{op(1, 1)}, n)...)) != (n <= mostOps) {
			t.Error("count", n)
		}
	}
	for kind := -2; kind <= 9; kind++ {
		for n := -3; n <= 260; n++ {
			want := kind == 1 || kind == 2 || kind == 4 || kind == 5 || kind == 3 && n >= 1 && n <= 256 || kind == 6 && n >= 0 && n <= 255
			if pipe.Right(of(10, 5, 2, none, none, op(kind, n))) != want {
				t.Error(kind, n)
			}
			if pipe.Right(of(10, 5, 2, none, none, op(2, 2), op(2, 2), op(2, 2), op(2, 2), op(2, 2), op(kind, n))) != want {
				t.Error("last", kind, n)
			}
		}
	}
}

func TestRightOfEmptyOps(t *testing.T) {
	p := of(10, 5, 2, none, none)
	for _, ops := range [][]api.Op{nil, {}, some().Ops[:0]} {
		p.Ops = ops
		if !pipe.Right(p) {
			t.Error(ops == nil)
		}
	}
}

// P9.2

func TestEncodeForms(t *testing.T) {
	for i, q := range []struct {
		p api.Pipe
		b []byte
	}{
		{some(), []byte{20, 10, 4, 6, 2, 4, 2, 14, 12, 8}},
		{of(1, 1, 1, none, none), []byte{2, 2, 2, 1, 1, 0}},
		{of(8, 1, 4, 0, 3), []byte{16, 2, 8, 0, 6, 0}},
		{of(64, 32, 3, 3, 0), []byte{128, 1, 64, 6, 6, 0, 0}},
		{of(mostSize, mostSize/8, 1, 2, none), []byte{128, 128, 128, 1, 128, 128, 16, 2, 4, 1, 0}},
		{of(10, 5, 2, none, 1, op(4, -1), op(3, 256)), []byte{20, 10, 4, 1, 2, 4, 8, 1, 6, 128, 4}},
		{of(10, 5, 2, none, none, op(2, math.MinInt)), []byte{20, 10, 4, 1, 1, 2, 4, 255, 255, 255, 255, 255, 255, 255, 255, 255, 1}},
		{of(10, 5, 2, none, none, op(1, 1), op(2, 2), op(3, 3), op(4, 4), op(5, 5), op(6, 6)), []byte{20, 10, 4, 1, 1, 12, 2, 2, 4, 4, 6, 6, 8, 8, 10, 10, 12, 12}},
	} {
		if b := pipe.Encode(q.p); !bytes.Equal(b, q.b) {
			t.Errorf("%d: Encode: %d, want %d", i, b, q.b)
		}
		if p, ok := pipe.Decode(q.b); !ok || !equal(p, q.p) {
			t.Errorf("%d: Decode: %v %t, want %v", i, p, ok, q.p)
		}
	}
}

func TestEncodeIsPut(t *testing.T) {
	for i, p := range rights() {
		if b := pipe.Encode(p); !bytes.Equal(b, vint.Put(intsOf(p)...)) {
			t.Error(i, p, b)
		}
	}
}

func TestEncodeOfWrong(t *testing.T) {
	for i, p := range wrongs() {
		if b := pipe.Encode(p); len(b) != 0 {
			t.Error(i, p, b)
		}
	}
}

func TestEncodeOfEmptyOps(t *testing.T) {
	p, q := of(10, 5, 2, none, none), of(10, 5, 2, none, none)
	p.Ops, q.Ops = nil, []api.Op{}
	if !bytes.Equal(pipe.Encode(p), []byte{20, 10, 4, 1, 1, 0}) || !bytes.Equal(pipe.Encode(q), []byte{20, 10, 4, 1, 1, 0}) {
		t.Error(pipe.Encode(p), pipe.Encode(q))
	}
}

func TestDecodeOfNone(t *testing.T) {
	refused(t, nil)
	refused(t, []byte{})
	refused(t, pipe.Encode(some())[:0])
}

func TestDecodeOfWhole(t *testing.T) {
	for i, p := range rights() {
		if got, ok := pipe.Decode(pipe.Encode(p)); !ok || !equal(got, p) {
			t.Error(i, got, ok, p)
		}
	}
}

func TestDecodeOfCut(t *testing.T) {
	for _, p := range rights() {
		b := pipe.Encode(p)
		for k := range b {
			refused(t, b[:k])
			// What is left without a beginning may be another pipe by chance.
			held(t, b[k+1:])
		}
	}
}

func TestDecodeOfMore(t *testing.T) {
	for _, p := range rights() {
		b := pipe.Encode(p)
		for n := range 256 {
			refused(t, slices.Concat(b, []byte{byte(n)}))
			refused(t, slices.Concat(b, []byte{2, byte(n)}))
		}
		refused(t, slices.Concat(b, b))
	}
}

// Ints without an end behind a pipe, and bytes that are far longer than any pipe.
func TestDecodeOfLong(t *testing.T) {
	for _, n := range []int{100, 170, 180, 181, 182, 1000, 1 << 16} {
		refused(t, bytes.Repeat([]byte{2}, n))
		refused(t, make([]byte, n))
		refused(t, bytes.Repeat([]byte{255}, n))
		refused(t, append(pipe.Encode(some()), bytes.Repeat([]byte{2, 2}, n)...))
		for _, count := range []int{n, 2 * n, 7, 6} {
			refused(t, append(vint.Put(10, 5, 2, -1, -1, count), bytes.Repeat([]byte{2, 2}, n)...))
		}
	}
}

func TestDecodeOfCounts(t *testing.T) {
	for n := range 10 {
		ops := slices.Repeat([]int{1, 1}, n)
		counts := append([]int{-2, -1, 0, 1, 2, 3, 4, 5, 6, 7, 8, 9, 12, n - 1, n + 1, 2 * n, -n - 1, 1<<32 + n, 1<<62 + n, 1<<63 - 1 - n, math.MinInt + n}, ends...)
		for _, count := range counts {
			b := vint.Put(slices.Concat([]int{10, 5, 2, -1, -1, count}, ops)...)
			if count == n && n <= mostOps {
				if p, ok := pipe.Decode(b); !ok || len(p.Ops) != n {
					t.Error(n, p, ok)
				}
			} else {
				refused(t, b)
			}
			refused(t, append(b, 2))
		}
	}
}

func TestDecodeOfWrong(t *testing.T) {
	for _, p := range wrongs() {
		refused(t, vint.Put(intsOf(p)...))
	}
}

func TestDecodeOfFew(t *testing.T) {
	l := []int{10, 5, 2, -1, -1, 0}
	for k := range l {
		refused(t, vint.Put(l[:k]...))
		refused(t, vint.Put(l[k+1:]...))
	}
}

// Each number of a pipe in a form that Put doesn't make: with an empty byte too many, or without its last byte.
func TestDecodeOfOtherForms(t *testing.T) {
	for _, p := range rights() {
		l := intsOf(p)
		for i, n := range l {
			long := vint.Put(n)
			long[len(long)-1] |= 128
			refused(t, slices.Concat(vint.Put(l[:i]...), long, []byte{0}, vint.Put(l[i+1:]...)))
			refused(t, slices.Concat(vint.Put(l[:i]...), long, []byte{128, 0}, vint.Put(l[i+1:]...)))
		}
	}
}

// P9.3

func TestSameOfFew(t *testing.T) {
	if !pipe.Same() || !pipe.Same(nil...) || !pipe.Same([]api.Pipe{}...) {
		t.Error("none")
	}
	for i, p := range append(rights(), wrongs()...) {
		if !pipe.Same(p) {
			t.Error(i)
		}
	}
}

func TestSameOfSame(t *testing.T) {
	for i, p := range append(rights(), wrongs()...) {
		if !pipe.Same(p, p) || !pipe.Same(p, copyOf(p)) || !pipe.Same(copyOf(p), p, copyOf(p), copyOf(p)) {
			t.Error(i, p)
		}
	}
}

// unlikes holds pipes that are unlike some in one field, or in one Op.
func unlikes() []api.Pipe {
	return []api.Pipe{
		with(func(p *api.Pipe) { p.Size = 11 }), with(func(p *api.Pipe) { p.Size = 1<<32 + 10 }), with(func(p *api.Pipe) { p.Size = -10 }),
		with(func(p *api.Pipe) { p.Slide = 6 }), with(func(p *api.Pipe) { p.Slide = 1<<32 + 5 }),
		with(func(p *api.Pipe) { p.Agg = 1 }), with(func(p *api.Pipe) { p.Agg = 0 }), with(func(p *api.Pipe) { p.Agg = 256 + 2 }),
		with(func(p *api.Pipe) { p.Sink = 2 }), with(func(p *api.Pipe) { p.Sink = none }), with(func(p *api.Pipe) { p.Sink = math.MaxInt }),
		with(func(p *api.Pipe) { p.Feed = 0 }), with(func(p *api.Pipe) { p.Feed = none }), with(func(p *api.Pipe) { p.Feed = math.MinInt }),
		with(func(p *api.Pipe) { p.Size, p.Slide = p.Slide, p.Size }), with(func(p *api.Pipe) { p.Sink, p.Feed = p.Feed, p.Sink }),
		with(func(p *api.Pipe) { p.Ops[0].Kind = 2 }), with(func(p *api.Pipe) { p.Ops[0].N = 8 }), with(func(p *api.Pipe) { p.Ops[0] = op(7, 1) }),
		with(func(p *api.Pipe) { p.Ops[1].Kind = 5 }), with(func(p *api.Pipe) { p.Ops[1].N = 1<<32 + 4 }),
		with(func(p *api.Pipe) { p.Ops[0], p.Ops[1] = p.Ops[1], p.Ops[0] }),
		with(func(p *api.Pipe) { p.Ops = nil }), with(func(p *api.Pipe) { p.Ops = p.Ops[:0] }), with(func(p *api.Pipe) { p.Ops = p.Ops[:1] }), with(func(p *api.Pipe) { p.Ops = p.Ops[1:] }),
		with(func(p *api.Pipe) { p.Ops = append(p.Ops, op(1, 1)) }), with(func(p *api.Pipe) { p.Ops = append(p.Ops, api.Op{}) }),
		{},
	}
}

func TestSameOfUnlike(t *testing.T) {
	for i, p := range unlikes() {
		if pipe.Same(p, some()) || pipe.Same(some(), p) {
			t.Error(i, p)
		}
		for n := 2; n <= 5; n++ {
			for at := range n {
				ps := make([]api.Pipe, n)
				for k := range ps {
					ps[k] = some()
				}
				ps[at] = p
				if pipe.Same(ps...) {
					t.Error(i, n, at)
				}
			}
		}
	}
	if one, two := unlikes()[0], unlikes()[3]; pipe.Same(some(), one, two) || pipe.Same(one, two, one) || pipe.Same(one, one, two, two) {
		t.Error("two unlike ones")
	}
}

func TestSameOfEach(t *testing.T) {
	all := append(append(rights(), wrongs()...), unlikes()...)
	for i, p := range all {
		for k, q := range all {
			if pipe.Same(p, q) != equal(p, q) {
				t.Error(i, k)
			}
		}
	}
}

func TestSameOfEmptyOps(t *testing.T) {
	lists := [][]api.Op{nil, {}, some().Ops[:0], make([]api.Op, 0, 4)}
	for i, a := range lists {
		for k, b := range lists {
			p, q := of(10, 5, 2, 0, 0), of(10, 5, 2, 0, 0)
			p.Ops, q.Ops = a, b
			if !pipe.Same(p, q) || !pipe.Same(api.Pipe{Ops: a}, api.Pipe{Ops: b}, api.Pipe{}) {
				t.Error(i, k)
			}
		}
	}
}

// P9.4

// wanted says what bytes Decode takes, by a way of its own: it reads the ints one by one, lays a pipe
// of them, and asks whether that pipe, if it is right, is written as these very bytes.
func wanted(b []byte) (api.Pipe, bool) {
	var l []int
	for rest := b; len(rest) > 0; {
		n, used := vint.Next(rest)
		if used == 0 {
			break
		}
		l = append(l, n)
		rest = rest[used:]
	}
	if len(l) < 6 {
		return api.Pipe{}, false
	}
	p := of(l[0], l[1], l[2], l[3], l[4])
	for i := 6; i+1 < len(l); i += 2 {
		p.Ops = append(p.Ops, op(l[i], l[i+1]))
	}
	if !pipe.Right(p) || !bytes.Equal(vint.Put(intsOf(p)...), b) {
		return api.Pipe{}, false
	}
	return p, true
}

// held asks whether Decode takes b as it should, and whether what it takes is encoded to b again.
func held(t *testing.T, b []byte) bool {
	t.Helper()
	p, ok := pipe.Decode(b)
	want, wantOk := wanted(b)
	if ok != wantOk || !equal(p, want) {
		t.Errorf("Decode(%d): %v %t, want %v %t", b, p, ok, want, wantOk)
	}
	if ok && (!pipe.Right(p) || !bytes.Equal(pipe.Encode(p), b)) {
		t.Errorf("Decode(%d): %v, which isn't encoded so", b, p)
	}
	return ok
}

func TestDecodeOfTurned(t *testing.T) {
	taken := 0
	for _, p := range rights() {
		b := pipe.Encode(p)
		for i := range b {
			for n := range 256 {
				turned := bytes.Clone(b)
				turned[i] = byte(n)
				if held(t, turned) {
					taken++
				}
			}
		}
	}
	// Of no more than the bytes as they were, or of all of them, the test would say little.
	if taken < 1000 {
		t.Error("taken", taken)
	}
}

// Of each byte one turn that makes it a pipe that may not be; of one of them also a turn that makes another pipe.
func TestDecodeOfTurnedOnce(t *testing.T) {
	b := pipe.Encode(some())
	for i, n := range []byte{0, 0, 0, 8, 3, 3, 0, 128, 14, 1} {
		turned := bytes.Clone(b)
		turned[i] = n
		refused(t, turned)
	}
	b[7] = 16
	if p, ok := pipe.Decode(b); !ok || !equal(p, with(func(p *api.Pipe) { p.Ops[0].N = 8 })) {
		t.Error(p, ok)
	}
}

// All short lists of small bytes behind a head that is right, and all heads of small bytes.
func TestDecodeOfAllShort(t *testing.T) {
	for a := range 16 {
		for b := range 16 {
			for c := range 16 {
				held(t, []byte{20, 10, 4, 1, 1, byte(a), byte(b), byte(c)})
				held(t, []byte{byte(a), byte(b), byte(c), 1, 1, 0})
				held(t, []byte{20, 10, byte(a), byte(b), byte(c), 0})
				held(t, []byte{20, 10, 4, byte(a), byte(b), byte(c), 2, 2})
			}
		}
	}
}

func TestScattered(t *testing.T) {
	x := uint64(1)
	next := func(n int) int {
		x = x*6364136223846793005 + 1442695040888963407
		return int(x>>33) % n
	}
	taken := 0
	for range 50000 {
		l := []int{1 + next(20), 1 + next(10), next(6), next(7) - 2, next(7) - 2, 0}
		for range next(8) {
			l = append(l, next(9), next(600)-100)
		}
		l[5] = len(l)/2 - 3
		if next(10) == 0 {
			l[5] += next(5) - 2
		}
		if held(t, vint.Put(l...)) {
			taken++
		}
	}
	if taken < 1000 {
		t.Error("taken", taken)
	}
}

// No two pipes have the same bytes, and only those that are the same have.
func TestEncodeTellsApart(t *testing.T) {
	all := rights()
	for _, p := range unlikes() {
		if pipe.Right(p) {
			all = append(all, p)
		}
	}
	for i, p := range all {
		for k, q := range all {
			if bytes.Equal(pipe.Encode(p), pipe.Encode(q)) != equal(p, q) {
				t.Error(i, k)
			}
		}
	}
}

// R2, R5

// full fills a list's spare room with what no pipe has.
func full(ops ...api.Op) []api.Op {
	l := append(make([]api.Op, 0, len(ops)+8), ops...)
	room := l[:cap(l)]
	for i := len(ops); i < len(room); i++ {
		room[i] = op(-9, -9)
	}
	return l
}

func TestPipesStay(t *testing.T) {
	for i, p := range append(rights(), wrongs()...) {
		p.Ops = full(p.Ops...)
		was := slices.Clone(p.Ops[:cap(p.Ops)])
		ps := append(make([]api.Pipe, 0, 5), p, some(), p)
		pipe.Right(p)
		b := pipe.Encode(p)
		pipe.Same(ps...)
		pipe.Same(ps[:1]...)
		if !slices.Equal(was, p.Ops[:cap(p.Ops)]) || !equal(ps[0], p) || !equal(ps[1], some()) || !equal(ps[2], p) || !isZero(ps[:4][3]) {
			t.Error(i, "changed")
		}
		if !bytes.Equal(b, pipe.Encode(copyOf(p))) {
			t.Error(i, "the room counts")
		}
	}
}

func TestBytesStay(t *testing.T) {
	for i, p := range rights() {
		b := append(pipe.Encode(p), 2, 2, 9)
		was := bytes.Clone(b)
		for k := range b {
			got, ok := pipe.Decode(b[:k])
			if !bytes.Equal(b, was) {
				t.Error(i, k, "changed")
			}
			if ok != (k == len(b)-3) || ok && !equal(got, p) {
				t.Error(i, k, "the room counts", got, ok)
			}
		}
	}
}

func TestEncodedIsNew(t *testing.T) {
	p := some()
	b := pipe.Encode(p)
	was := bytes.Clone(b)
	p.Ops[0], p.Ops[1] = op(5, 5), op(5, 5)
	if !bytes.Equal(b, was) {
		t.Error("hangs on the pipe", b)
	}
	room := b[:cap(b)]
	for i := range room {
		room[i] = 77
	}
	if !bytes.Equal(pipe.Encode(some()), was) {
		t.Error("hangs on an answer", pipe.Encode(some()))
	}
}

func TestDecodedIsNew(t *testing.T) {
	b := pipe.Encode(some())
	was := bytes.Clone(b)
	one, _ := pipe.Decode(b)
	two, _ := pipe.Decode(b)
	clear(b)
	if !equal(one, some()) {
		t.Error("hangs on the bytes", one)
	}
	room := one.Ops[:cap(one.Ops)]
	for i := range room {
		room[i] = op(9, 9)
	}
	three, ok := pipe.Decode(was)
	if !equal(two, some()) || !ok || !equal(three, some()) {
		t.Error("hangs on an answer", two, three)
	}
}

func TestRefusedIsZero(t *testing.T) {
	for _, b := range [][]byte{nil, {1}, {128, 0}, vint.Put(10, 5, 2, -1, -1), vint.Put(10, 5, 2, -1, -1, 1, 7, 1), vint.Put(10, 5, 2, 4, -1, 0), make([]byte, 500)} {
		p, ok := pipe.Decode(b)
		if ok || len(p.Ops) != 0 || p.Size != 0 || p.Slide != 0 || p.Agg != 0 || p.Sink != 0 || p.Feed != 0 {
			t.Error(b, p, ok)
		}
	}
}
