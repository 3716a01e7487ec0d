package wide_test

import (
	"math"
	"slices"
	"testing"

	"astrolabe/wide"
)

const (
	least64 = math.MinInt64
	most64  = math.MaxInt64
	ones    = math.MaxUint64
)

var (
	zero  = wide.W{}
	least = wide.W{Hi: least64}
	most  = wide.W{Hi: most64, Lo: ones}
)

func w(hi int64, lo uint64) wide.W { return wide.W{Hi: hi, Lo: lo} }

func TestOf(t *testing.T) {
	for _, c := range []struct {
		a    int64
		want wide.W
	}{
		{5, w(0, 5)},
		{0, zero},
		{1, w(0, 1)},
		{-1, w(-1, ones)},
		{-5, w(-1, ones-4)},
		{most64, w(0, 1<<63-1)},
		{least64, w(-1, 1<<63)},
	} {
		if got := wide.Of(c.a); got != c.want {
			t.Errorf("P1.1: Of(%d) is %v, not %v", c.a, got, c.want)
		}
	}
}

func TestMul(t *testing.T) {
	for _, c := range []struct {
		a, b int64
		want wide.W
	}{
		{1 << 62, 4, w(1, 0)},
		{3, 7, w(0, 21)},
		{3, -7, w(-1, ones-20)},
		{-3, -7, w(0, 21)},
		{0, least64, zero},
		{0, -1, zero},
		{-1, least64, w(0, 1<<63)},
		{1, least64, w(-1, 1<<63)},
		{least64, least64, w(1<<62, 0)},
		{least64, most64, w(-1<<62, 1<<63)},
		{most64, most64, w(1<<62-1, 1)},
		{1 << 32, 1 << 32, w(1, 0)},
		{-1 << 32, 1 << 32, w(-1, 0)},
	} {
		for _, got := range []wide.W{wide.Mul(c.a, c.b), wide.Mul(c.b, c.a)} {
			if got != c.want {
				t.Errorf("P1.1: Mul of %d and %d is %v, not %v", c.a, c.b, got, c.want)
			}
		}
	}
}

func TestAdd(t *testing.T) {
	for i, c := range []struct {
		l    []wide.W
		want wide.W
		ok   bool
	}{
		{nil, zero, true},
		{[]wide.W{}, zero, true},
		{[]wide.W{least}, least, true},
		{[]wide.W{most}, most, true},
		{[]wide.W{w(0, ones), wide.Of(1)}, w(1, 0), true},
		{[]wide.W{w(1, 0), wide.Of(-1)}, w(0, ones), true},
		{[]wide.W{wide.Of(1), wide.Of(2), wide.Of(-10)}, wide.Of(-7), true},
		{[]wide.W{least, most}, wide.Of(-1), true},
		{[]wide.W{w(1<<62, 0), w(1<<62-1, ones)}, most, true},
		{[]wide.W{w(1<<62, 0), w(1<<62, 0)}, zero, false},
		{[]wide.W{w(-1<<62, 0), w(-1<<62, 0)}, least, true},
		{[]wide.W{w(-1<<62, 0), w(-1<<62-1, ones)}, zero, false},
		{[]wide.W{most, wide.Of(1)}, zero, false},
		{[]wide.W{wide.Of(1), most}, zero, false},
		{[]wide.W{most, most}, zero, false},
		{[]wide.W{least, wide.Of(-1)}, zero, false},
		{[]wide.W{least, least}, zero, false},
	} {
		if got, ok := wide.Add(c.l...); got != c.want || ok != c.ok {
			t.Errorf("P1.1: Add, line %d: %v, %v, not %v, %v", i, got, ok, c.want, c.ok)
		}
	}
}

// Halves of alternating bits: the sum's upper half differs from theirs in every bit, not in the sign alone.
func TestAddAlternating(t *testing.T) {
	const fives = 0x5555555555555555
	for i, a := range []wide.W{w(fives, 0), w(^fives, ones), w(fives, fives), w(^fives, 1<<63)} {
		if got, ok := wide.Add(a, a); got != zero || ok {
			t.Errorf("P1.1: Add of alternating bits, line %d: %v, %v", i, got, ok)
		}
	}
	if got, ok := wide.Add(w(fives, fives), w(^fives, ones-fives)); got != wide.Of(-1) || !ok {
		t.Errorf("P1.1: Add of alternating bits of either sign: %v, %v", got, ok)
	}
}

// A sum that leaves the range on its way is refused, though the whole would fit.
func TestAddOnTheWay(t *testing.T) {
	up, down := wide.Of(1), wide.Of(-1)
	for i, l := range [][]wide.W{
		{most, up, down},
		{least, down, up},
		{up, most, least, down},
		{most, most, least, least},
		{up, down, least, least, most, most},
	} {
		if got, ok := wide.Add(l...); got != zero || ok {
			t.Errorf("P1.1: Add on the way, line %d: %v, %v", i, got, ok)
		}
	}
	for i, l := range [][]wide.W{
		{most, down, up},
		{least, up, down},
		{most, least, most, least, most, up, up},
	} {
		if _, ok := wide.Add(l...); !ok {
			t.Errorf("P1.1: Add on the way, line %d of those that fit, is refused", i)
		}
	}
}

func TestAddLeavesItsListAlone(t *testing.T) {
	spare := []wide.W{wide.Of(3), most, least, wide.Of(-4), wide.Of(9), wide.Of(8)}
	before := slices.Clone(spare)
	for n := range spare {
		first, ok := wide.Add(spare[:n]...)
		again, same := wide.Add(spare[:n]...)
		if first != again || ok != same {
			t.Errorf("R5: Add of %d numbers told first %v, then %v", n, first, again)
		}
	}
	if !slices.Equal(spare, before) {
		t.Errorf("R4: Add made %v of %v", spare, before)
	}
}

func TestNeg(t *testing.T) {
	for _, c := range []struct {
		a, want wide.W
		ok      bool
	}{
		{zero, zero, true},
		{wide.Of(1), wide.Of(-1), true},
		{wide.Of(-5), wide.Of(5), true},
		{w(1, 0), w(-1, 0), true},
		{w(-1, 0), w(1, 0), true},
		{w(0, ones), w(-1, 1), true},
		{most, w(least64, 1), true},
		{w(least64, 1), most, true},
		{w(least64, ones), w(most64, 1), true},
		{least, zero, false},
	} {
		if got, ok := wide.Neg(c.a); got != c.want || ok != c.ok {
			t.Errorf("P1.1: Neg(%v) is %v, %v, not %v, %v", c.a, got, ok, c.want, c.ok)
		}
	}
}

func TestCmp(t *testing.T) {
	rising := []wide.W{least, w(least64, 1), w(-2, ones), w(-1, 0), w(-1, 5), w(-1, 6), w(-1, ones), zero,
		w(0, 1), w(0, 1<<63), w(0, ones), w(1, 0), w(1, 7), w(most64, 0), w(most64, ones-1), most}
	for i, a := range rising {
		for j, b := range rising {
			want := 0
			if i < j {
				want = -1
			} else if i > j {
				want = 1
			}
			if got := wide.Cmp(a, b); got != want {
				t.Errorf("P1.1: Cmp(%v, %v) is %d, not %d", a, b, got, want)
			}
		}
	}
}

func TestShift(t *testing.T) {
	for _, c := range []struct {
		a    int64
		s    int
		want wide.W
		ok   bool
	}{
		{5, 0, wide.Of(5), true},
		{-5, 0, wide.Of(-5), true},
		{3, 63, w(1, 1<<63), true},
		{3, 64, w(3, 0), true},
		{3, 65, w(6, 0), true},
		{-3, 1, wide.Of(-6), true},
		{-3, 64, w(-3, 0), true},
		{0, 127, zero, true},
		{1, 126, w(1<<62, 0), true},
		{1, 127, zero, false},
		{-1, 127, least, true},
		{-2, 126, least, true},
		{-2, 127, zero, false},
		{-3, 126, zero, false},
		{most64, 64, w(most64, 0), true},
		{most64, 65, zero, false},
		{least64, 64, least, true},
		{least64, 65, zero, false},
		{0, 128, zero, false},
		{0, -1, zero, false},
		{1, most64, zero, false},
		{1, least64, zero, false},
	} {
		if got, ok := wide.Shift(c.a, c.s); got != c.want || ok != c.ok {
			t.Errorf("P1.1: Shift(%d, %d) is %v, %v, not %v, %v", c.a, c.s, got, ok, c.want, c.ok)
		}
	}
}

func TestRound(t *testing.T) {
	for _, c := range []struct {
		a    wide.W
		s    int
		want int64
		ok   bool
	}{
		{wide.Of(5), 1, 3, true},
		{wide.Of(-5), 1, -3, true},
		{wide.Of(1), 1, 1, true},
		{wide.Of(-1), 1, -1, true},
		{wide.Of(5), 2, 1, true},
		{wide.Of(-5), 2, -1, true},
		{wide.Of(6), 2, 2, true},
		{wide.Of(-6), 2, -2, true},
		{wide.Of(-7), 0, -7, true},
		{zero, 126, 0, true},
		{w(0, 1<<63), 64, 1, true},
		{w(0, 1<<63-1), 64, 0, true},
		{w(-1, 1<<63), 64, -1, true},
		{w(-1, 1<<63+1), 64, 0, true},
		{w(1, 0), 65, 1, true},
		{w(0, ones), 65, 0, true},
		{w(0, 1<<63-1), 0, most64, true},
		{w(0, 1<<63), 0, 0, false},
		{w(-1, 1<<63), 0, least64, true},
		{w(-1, 1<<63-1), 0, 0, false},
		{w(0, ones-2), 1, most64, true},
		{w(0, ones-1), 1, most64, true},
		{w(0, ones), 1, 0, false},
		{w(-1, 0), 1, least64, true},
		{w(-2, ones), 1, 0, false},
		{w(1, 0), 1, 0, false},
		{most, 126, 2, true},
		{least, 126, -2, true},
		{w(1<<61, 0), 126, 1, true},
		{w(1<<61-1, ones), 126, 0, true},
		{w(-1<<61, 0), 126, -1, true},
		{most, 64, 0, false},
		{least, 64, least64, true},
		{least, 63, 0, false},
		{wide.Of(1), 127, 0, false},
		{wide.Of(1), -1, 0, false},
		{wide.Of(1), most64, 0, false},
		{wide.Of(1), least64, 0, false},
	} {
		if got, ok := wide.Round(c.a, c.s); got != c.want || ok != c.ok {
			t.Errorf("P1.2: Round(%v, %d) is %d, %v, not %d, %v", c.a, c.s, got, ok, c.want, c.ok)
		}
	}
}

func TestDiv(t *testing.T) {
	for _, c := range []struct {
		a    wide.W
		d    int64
		want int64
		ok   bool
	}{
		{wide.Of(7), 2, 4, true},
		{wide.Of(-7), 2, -4, true},
		{wide.Of(7), -2, -4, true},
		{wide.Of(-7), -2, 4, true},
		{wide.Of(7), 3, 2, true},
		{wide.Of(-8), 3, -3, true},
		{zero, -9, 0, true},
		{zero, 0, 0, false},
		{wide.Of(1), 0, 0, false},
		{least, 0, 0, false},
		{wide.Of(1 << 62), least64, -1, true},
		{wide.Of(1<<62 - 1), least64, 0, true},
		{wide.Of(least64), least64, 1, true},
		{wide.Of(least64), -1, 0, false},
		{wide.Of(least64), 1, least64, true},
		{w(0, 1<<63), -1, least64, true},
		{w(0, 1<<63), 1, 0, false},
		{w(0, ones), 2, 0, false},
		{w(0, ones-1), 2, most64, true},
		{w(-1, 0), 2, least64, true},
		{w(-2, ones), 2, 0, false},
		{w(1, 0), 2, 0, false},
		{w(1, 0), 3, 6148914691236517205, true},
		{w(1, ones), 2, 0, false},
		{w(1<<62, 0), least64, least64, true},
		{w(1<<62, 0), most64, 0, false},
		{w(1<<62-1, 1<<63), most64, 0, false},
		{w(1<<62-1, 1), most64, most64, true},
		{most, most64, 0, false},
		{least, least64, 0, false},
		{most, 1, 0, false},
		{least, 1, 0, false},
	} {
		if got, ok := wide.Div(c.a, c.d); got != c.want || ok != c.ok {
			t.Errorf("P1.2: Div(%v, %d) is %d, %v, not %d, %v", c.a, c.d, got, ok, c.want, c.ok)
		}
	}
}

func TestRoot(t *testing.T) {
	for _, c := range []struct {
		a    wide.W
		want int64
		ok   bool
	}{
		{zero, 0, true},
		{wide.Of(1), 1, true},
		{wide.Of(2), 1, true},
		{wide.Of(3), 2, true},
		{wide.Of(4), 2, true},
		{wide.Of(6), 2, true},
		{wide.Of(7), 3, true},
		{w(0, ones), 1 << 32, true},
		{w(1, 0), 1 << 32, true},
		{w(1<<60, 0), 1 << 62, true},
		{wide.Mul(most64, most64), most64, true},
		{w(1<<62-1, 1<<63), most64, true},
		{w(1<<62-1, 1<<63+1), 0, false},
		{w(1<<62, 0), 0, false},
		{most, 0, false},
		{wide.Of(-1), 0, false},
		{least, 0, false},
	} {
		if got, ok := wide.Root(c.a); got != c.want || ok != c.ok {
			t.Errorf("P1.2: Root(%v) is %d, %v, not %d, %v", c.a, got, ok, c.want, c.ok)
		}
	}
}
