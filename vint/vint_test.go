package vint_test

import (
	"bytes"
	"math"
	"math/big"
	"slices"
	"testing"

	"cordon/vint"
)

// form is an int and its bytes, written out.
type form struct {
	n int
	b []byte
}

// full is k bytes that all say that another one follows.
func full(k int, last ...byte) []byte { return append(bytes.Repeat([]byte{255}, k), last...) }

// empty is k bytes without a bit of the number, that all say that another one follows.
func empty(k int, last ...byte) []byte { return append(bytes.Repeat([]byte{128}, k), last...) }

// forms holds ordinary ints, both ends of each number of bytes, and both ends of int.
func forms() []form {
	return []form{
		{0, []byte{0}}, {-1, []byte{1}}, {1, []byte{2}}, {-2, []byte{3}}, {2, []byte{4}}, {-3, []byte{5}},
		{5, []byte{10}}, {-5, []byte{9}}, {62, []byte{124}}, {-63, []byte{125}},
		{63, []byte{126}}, {-64, []byte{127}},
		{64, []byte{128, 1}}, {-65, []byte{129, 1}}, {65, []byte{130, 1}},
		{150, []byte{172, 2}}, {-150, []byte{171, 2}}, {1000, []byte{208, 15}}, {-1000, []byte{207, 15}},
		{1<<13 - 1, []byte{254, 127}}, {-1 << 13, []byte{255, 127}},
		{1 << 13, []byte{128, 128, 1}}, {-1<<13 - 1, []byte{129, 128, 1}},
		{1<<20 - 1, []byte{254, 255, 127}}, {-1 << 20, full(2, 127)},
		{1 << 20, empty(3, 1)}, {-1<<20 - 1, []byte{129, 128, 128, 1}},
		{1<<27 - 1, []byte{254, 255, 255, 127}}, {-1 << 27, full(3, 127)},
		{1 << 27, empty(4, 1)}, {-1<<27 - 1, []byte{129, 128, 128, 128, 1}},
		{math.MaxInt32, []byte{254, 255, 255, 255, 15}}, {math.MinInt32, full(4, 15)},
		{1<<34 - 1, []byte{254, 255, 255, 255, 127}}, {-1 << 34, full(4, 127)},
		{1 << 34, empty(5, 1)}, {-1<<34 - 1, []byte{129, 128, 128, 128, 128, 1}},
		{1 << 40, []byte{128, 128, 128, 128, 128, 64}},
		{1<<41 - 1, []byte{254, 255, 255, 255, 255, 127}}, {-1 << 41, full(5, 127)},
		{1 << 41, empty(6, 1)}, {-1<<41 - 1, append([]byte{129}, empty(5, 1)...)},
		{1<<48 - 1, append([]byte{254}, full(5, 127)...)}, {-1 << 48, full(6, 127)},
		{1 << 48, empty(7, 1)}, {-1<<48 - 1, append([]byte{129}, empty(6, 1)...)},
		{1<<55 - 1, append([]byte{254}, full(6, 127)...)}, {-1 << 55, full(7, 127)},
		{1 << 55, empty(8, 1)}, {-1<<55 - 1, append([]byte{129}, empty(7, 1)...)},
		{1<<62 - 1, append([]byte{254}, full(7, 127)...)}, {-1 << 62, full(8, 127)},
		{1 << 62, empty(9, 1)}, {-1<<62 - 1, append([]byte{129}, empty(8, 1)...)},
		{math.MaxInt - 1, append([]byte{252}, full(8, 1)...)}, {math.MinInt + 1, append([]byte{253}, full(8, 1)...)},
		{math.MaxInt, append([]byte{254}, full(8, 1)...)}, {math.MinInt, full(9, 1)},
	}
}

// slowPut works the bytes of n out by dividing, in numbers that have no end.
func slowPut(n int) []byte {
	code := new(big.Int).Mul(big.NewInt(int64(n)), big.NewInt(2))
	if n < 0 {
		code.Sub(big.NewInt(-1), code)
	}
	var b []byte
	for {
		low := new(big.Int)
		code.DivMod(code, big.NewInt(128), low)
		if code.Sign() == 0 {
			return append(b, byte(low.Int64()))
		}
		b = append(b, byte(low.Int64())+128)
	}
}

// manyInts holds those next to 0, those next to each power of two on both sides, and scattered ones of each length.
func manyInts() []int {
	var l []int
	for n := -300; n <= 300; n++ {
		l = append(l, n)
	}
	for k := range 64 {
		for d := -2; d <= 2; d++ {
			l = append(l, 1<<k+d, -(1<<k)+d)
		}
	}
	x := uint64(1)
	for i := range 2000 {
		x = x*6364136223846793005 + 1442695040888963407
		l = append(l, int(x)>>(i%64))
	}
	return l
}

func TestRuns(t *testing.T) {
	if b := vint.Put(0, -1, 64); !bytes.Equal(b, []byte{0, 1, 128, 1}) {
		t.Error("Put(0, -1, 64)", b)
	}
	if l, ok := vint.Get([]byte{128, 0}); ok || l != nil {
		t.Error("Get(128 0)", l, ok)
	}
	if n := vint.Size(math.MinInt); n != 10 {
		t.Error("Size of the least int", n)
	}
}

// P3.1

func TestPutForms(t *testing.T) {
	for _, q := range forms() {
		if b := vint.Put(q.n); !bytes.Equal(b, q.b) {
			t.Errorf("Put(%d): %d, want %d", q.n, b, q.b)
		}
	}
}

func TestPutMany(t *testing.T) {
	for _, n := range manyInts() {
		if b := vint.Put(n); !bytes.Equal(b, slowPut(n)) {
			t.Errorf("Put(%d): %d, want %d", n, b, slowPut(n))
		}
	}
}

func TestPutLists(t *testing.T) {
	if b := vint.Put(); b != nil {
		t.Error("Put()", b)
	}
	if b := vint.Put([]int{}...); b != nil {
		t.Error("Put of an empty list", b)
	}
	if b := vint.Put(0, 0, 0); !bytes.Equal(b, []byte{0, 0, 0}) {
		t.Error("Put(0, 0, 0)", b)
	}
	if b := vint.Put(64, 0, -65, 1); !bytes.Equal(b, []byte{128, 1, 0, 129, 1, 2}) {
		t.Error("Put(64, 0, -65, 1)", b)
	}
	var want []byte
	for _, n := range manyInts() {
		want = append(want, slowPut(n)...)
	}
	if b := vint.Put(manyInts()...); !bytes.Equal(b, want) {
		t.Error("Put of many isn't each one's bytes, one behind the other")
	}
}

func TestPutSaysMoreOnEachByteButTheLast(t *testing.T) {
	for _, n := range manyInts() {
		b := vint.Put(n)
		for i, part := range b {
			if (part >= 128) != (i < len(b)-1) {
				t.Errorf("Put(%d): %d", n, b)
			}
		}
		if len(b) > 1 && b[len(b)-1] == 0 {
			t.Errorf("Put(%d) has a byte more than there must be: %d", n, b)
		}
	}
}

// P3.2

func TestNextForms(t *testing.T) {
	for _, q := range forms() {
		for _, behind := range [][]byte{nil, {0}, {1}, {127}, {128}, {255}, {9, 9}, full(12)} {
			b := slices.Concat(q.b, behind)
			if n, used := vint.Next(b); n != q.n || used != len(q.b) {
				t.Errorf("Next(%d): %d, %d, want %d, %d", b, n, used, q.n, len(q.b))
			}
		}
	}
}

func TestNextOfWhatIsCutShort(t *testing.T) {
	for _, q := range forms() {
		for k := range q.b {
			if n, used := vint.Next(q.b[:k]); n != 0 || used != 0 {
				t.Errorf("Next(%d): %d, %d", q.b[:k], n, used)
			}
		}
	}
	if n, used := vint.Next(nil); n != 0 || used != 0 {
		t.Error("Next(nil)", n, used)
	}
	if n, used := vint.Next([]byte{}); n != 0 || used != 0 {
		t.Error("Next of no bytes", n, used)
	}
}

// wrong holds bytes that begin with no int as Put makes it.
func wrong() [][]byte {
	l := [][]byte{
		{128}, {255}, {128, 128}, {128, 0}, {129, 0}, {255, 0}, {128, 128, 0}, {129, 128, 0}, {128, 0, 1}, {255, 255, 0},
		full(9, 0), empty(9, 0), full(9, 2), full(9, 3), empty(9, 2), empty(9, 3), empty(9, 4), empty(9, 64), empty(9, 127),
		full(9, 64), full(9, 65), full(9, 127), full(9, 128), full(9, 129), full(9, 255),
		full(10), empty(10), full(10, 0), full(10, 1), empty(10, 0), empty(10, 1), full(9, 128, 0), full(9, 129, 0),
		full(9, 128, 1), full(9, 129, 1), empty(9, 128, 1), empty(9, 129, 0), full(10, 127), empty(11, 1), full(11, 1),
		full(64), empty(64, 1), full(1000, 1), empty(1000, 0), empty(1000, 1),
	}
	// A shift that wraps round would take a byte at these places for the first one.
	for k := 9; k <= 75; k++ {
		l = append(l, empty(k, 2), full(k, 2))
	}
	// Each int with one or two bytes more than there must be, and with its last byte saying that more follow.
	for _, q := range forms() {
		more := slices.Clone(q.b)
		more[len(more)-1] |= 128
		l = append(l, append(slices.Clone(more), 0), append(slices.Clone(more), 128, 0), more)
	}
	return l
}

func TestNextOfWrongBytes(t *testing.T) {
	for _, b := range wrong() {
		for _, behind := range [][]byte{nil, {0}, {2, 4}} {
			whole := slices.Concat(b, behind)
			// What is only cut short may become an int by what stands behind it.
			if behind != nil && b[len(b)-1] >= 128 && len(b) < 10 {
				continue
			}
			if n, used := vint.Next(whole); n != 0 || used != 0 {
				t.Errorf("Next(%d): %d, %d", whole, n, used)
			}
		}
	}
}

func TestGetLists(t *testing.T) {
	for _, q := range []struct {
		b    []byte
		want []int
	}{
		{[]byte{0}, []int{0}},
		{[]byte{0, 0}, []int{0, 0}},
		{[]byte{0, 1, 128, 1}, []int{0, -1, 64}},
		{[]byte{128, 1, 0}, []int{64, 0}},
		{[]byte{128, 1, 128, 1}, []int{64, 64}},
		{full(9, 1, 0), []int{math.MinInt, 0}},
		{append(full(9, 1), append([]byte{254}, full(8, 1)...)...), []int{math.MinInt, math.MaxInt}},
	} {
		if l, ok := vint.Get(q.b); !ok || !slices.Equal(l, q.want) {
			t.Errorf("Get(%d): %d, %v, want %d", q.b, l, ok, q.want)
		}
	}
}

func TestGetOfNoBytes(t *testing.T) {
	if l, ok := vint.Get(nil); !ok || l != nil {
		t.Error("Get(nil)", l, ok)
	}
	if l, ok := vint.Get([]byte{}); !ok || l != nil {
		t.Error("Get of no bytes", l, ok)
	}
}

func TestGetOfWrongBytes(t *testing.T) {
	for _, b := range wrong() {
		for _, ahead := range [][]byte{nil, {0}, {128, 1}, {0, 1, 2}, full(9, 1)} {
			whole := slices.Concat(ahead, b)
			if l, ok := vint.Get(whole); ok || l != nil {
				t.Errorf("Get(%d): %d, %v", whole, l, ok)
			}
		}
	}
	for _, q := range forms() {
		for k := 1; k < len(q.b); k++ {
			if l, ok := vint.Get(q.b[:k]); ok || l != nil {
				t.Errorf("Get(%d): %d, %v", q.b[:k], l, ok)
			}
		}
		for _, behind := range [][]byte{{128}, {0, 128}, {128, 0}, {255, 255}, full(9, 2)} {
			whole := slices.Concat(q.b, behind)
			if l, ok := vint.Get(whole); ok || l != nil {
				t.Errorf("Get(%d): %d, %v", whole, l, ok)
			}
		}
	}
}

func TestSize(t *testing.T) {
	for _, q := range forms() {
		if n := vint.Size(q.n); n != len(q.b) {
			t.Errorf("Size(%d): %d, want %d", q.n, n, len(q.b))
		}
	}
	for _, n := range manyInts() {
		if size := vint.Size(n); size != len(slowPut(n)) {
			t.Errorf("Size(%d): %d, want %d", n, size, len(slowPut(n)))
		}
	}
}

// P3.3

func TestWhatIsPutIsGot(t *testing.T) {
	for _, n := range manyInts() {
		if l, ok := vint.Get(vint.Put(n)); !ok || !slices.Equal(l, []int{n}) {
			t.Errorf("Get(Put(%d)): %d, %v", n, l, ok)
		}
		if m, used := vint.Next(vint.Put(n, n)); m != n || used != vint.Size(n) {
			t.Errorf("Next(Put(%d, the same)): %d, %d", n, m, used)
		}
	}
	if l, ok := vint.Get(vint.Put(manyInts()...)); !ok || !slices.Equal(l, manyInts()) {
		t.Error("Get(Put(..)) of many")
	}
}

// gotIsPut asks whether b is either refused or what Put makes of what is got.
func gotIsPut(t *testing.T, b []byte) {
	t.Helper()
	l, ok := vint.Get(b)
	if !ok && l != nil || ok && !bytes.Equal(vint.Put(l...), b) {
		t.Fatalf("Get(%d): %d, %v", b, l, ok)
	}
	n, used := vint.Next(b)
	if used == 0 && n != 0 || used != 0 && !bytes.Equal(vint.Put(n), b[:used]) {
		t.Fatalf("Next(%d): %d, %d", b, n, used)
	}
}

func TestNothingElseIsGot(t *testing.T) {
	for x := range 1 << 16 {
		b := []byte{byte(x >> 8), byte(x)}
		gotIsPut(t, b)
		gotIsPut(t, b[:1])
		// The last two bytes of the longest form, and those behind them.
		gotIsPut(t, append(full(8), b...))
		gotIsPut(t, append(empty(9), b...))
	}
	parts := []byte{0, 1, 2, 127, 128, 129, 255}
	for x := range 7 * 7 * 7 * 7 * 7 {
		b := empty(5)
		for i := range b {
			b[i] = parts[x%7]
			x /= 7
		}
		gotIsPut(t, b)
		gotIsPut(t, append(full(6), b...))
	}
}

func TestNoIntHasTwoForms(t *testing.T) {
	bytesOf := map[int]int{}
	for x := range 1 << 16 {
		b := []byte{byte(x >> 8), byte(x)}
		n, used := vint.Next(b)
		if used != 2 {
			continue
		}
		if other, ok := bytesOf[n]; ok {
			t.Fatalf("%d has two forms: %x, %x", n, other, x)
		}
		bytesOf[n] = x
	}
	// All pairs whose first byte says more, and whose last one is not 0 and says no more.
	if len(bytesOf) != 128*127 {
		t.Error(len(bytesOf))
	}
}

// R2 and R5

func TestRoomBehindIsLeftAlone(t *testing.T) {
	ints := []int{64, 0, -65, 77, 78}
	keptInts := slices.Clone(ints)
	if b := vint.Put(ints[:3]...); !bytes.Equal(b, []byte{128, 1, 0, 129, 1}) {
		t.Error("Put reads behind", b)
	}
	b := []byte{2, 128, 1, 128, 1, 0, 0}
	kept := bytes.Clone(b)
	if l, ok := vint.Get(b[:3]); !ok || !slices.Equal(l, []int{1, 64}) {
		t.Error("Get reads behind", l, ok)
	}
	if l, ok := vint.Get(b[:4]); ok || l != nil {
		t.Error("Get reads the rest of an int behind", l, ok)
	}
	if n, used := vint.Next(b[1:2]); n != 0 || used != 0 {
		t.Error("Next reads behind", n, used)
	}
	if n, used := vint.Next(b[:0]); n != 0 || used != 0 {
		t.Error("Next of none reads behind", n, used)
	}
	if l, ok := vint.Get(b[:0]); !ok || l != nil {
		t.Error("Get of none reads behind", l, ok)
	}
	if !slices.Equal(ints, keptInts) || !bytes.Equal(b, kept) {
		t.Error("changed", ints, b)
	}
}

func TestAnswersAreNewMemory(t *testing.T) {
	ints := []int{64, 0, -65}
	first, second := vint.Put(ints...), vint.Put(ints...)
	room := first[:cap(first)]
	for i := range room {
		room[i] = 77
	}
	if want := []byte{128, 1, 0, 129, 1}; !bytes.Equal(second, want) || !bytes.Equal(vint.Put(ints...), want) {
		t.Error("Put", second)
	}
	one, _ := vint.Get(second)
	other, _ := vint.Get(second)
	all := one[:cap(one)]
	for i := range all {
		all[i] = -7
	}
	if again, ok := vint.Get(second); !ok || !slices.Equal(other, ints) || !slices.Equal(again, ints) {
		t.Error("Get", other, again)
	}
}
