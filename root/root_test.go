package root_test

import (
	"math"
	"slices"
	"testing"

	"astrolabe/api"
	"astrolabe/fx"
	"astrolabe/root"
)

const (
	one     = api.One
	top     = api.Max
	least64 = math.MinInt64
	most64  = math.MaxInt64
)

// row tells what a call of the given arguments answers, and whether it sets the flag.
type row struct {
	l    []int64
	want int64
	hit  bool
}

// check holds a call against what it must answer: with the flag not set before it, and with the flag set.
func check(t *testing.T, name string, r row, call func(c *fx.Acc, l ...int64) int64) {
	t.Helper()
	for _, before := range []bool{false, true} {
		c := &fx.Acc{Hit: before}
		for range 2 {
			if got := call(c, r.l...); got != r.want || c.Hit != (before || r.hit) {
				t.Errorf("%s of %v, flag %v: %d, flag %v, not %d, flag %v",
					name, r.l, before, got, c.Hit, r.want, before || r.hit)
			}
		}
	}
}

func sqrtOf(c *fx.Acc, l ...int64) int64  { return root.Sqrt(c, l[0]) }
func recipOf(c *fx.Acc, l ...int64) int64 { return root.Recip(c, l[0]) }

func TestSqrt(t *testing.T) {
	for _, r := range []row{
		{[]int64{one}, one, false},
		{[]int64{2 * one}, 1518500250, false},
		{[]int64{4 * one}, 2 * one, false},
		{[]int64{one / 4}, one / 2, false},
		{[]int64{0}, 0, false},
		{[]int64{1}, 1 << 15, false},
		{[]int64{2}, 46341, false},
		{[]int64{3}, 56756, false},
		{[]int64{4}, 1 << 16, false},
		{[]int64{top}, 1 << 45, false},
		{[]int64{top - 1}, 1 << 45, false},
		// What is left above the square is just the root, which is not enough to round up.
		{[]int64{one - 1}, one - 1, false},
		{[]int64{one + 1}, one, false},
		{[]int64{one + 2}, one + 1, false},
		{[]int64{4*one + 2}, 2 * one, false},
		{[]int64{4*one + 3}, 2*one + 1, false},
		{[]int64{top - 1<<15}, 1<<45 - 1, false},
		{[]int64{top - 1<<15 + 1}, 1 << 45, false},
		{[]int64{top + 1}, 1 << 45, true},
		{[]int64{most64}, 1 << 45, true},
		{[]int64{-1}, 0, true},
		{[]int64{-one}, 0, true},
		{[]int64{-top}, 0, true},
		{[]int64{-top - 1}, 0, true},
		{[]int64{least64}, 0, true},
	} {
		check(t, "P3.1: Sqrt", r, sqrtOf)
	}
}

func TestRecip(t *testing.T) {
	for _, r := range []row{
		{[]int64{2 * one}, one / 2, false},
		{[]int64{one}, one, false},
		{[]int64{-one}, -one, false},
		{[]int64{one / 2}, 2 * one, false},
		{[]int64{3 * one}, 357913941, false},
		{[]int64{-3 * one}, -357913941, false},
		{[]int64{one + 1}, one - 1, false},
		{[]int64{one - 1}, one + 1, false},
		{[]int64{1}, top, false},
		{[]int64{-1}, -top, false},
		{[]int64{2}, top / 2, false},
		{[]int64{3}, 384307168202282325, false},
		{[]int64{top}, 1, false},
		{[]int64{-top}, -1, false},
		// About two thirds of Max, where the reciprocal is one and a half.
		{[]int64{768614336404564650}, 2, false},
		{[]int64{768614336404564651}, 1, false},
		{[]int64{-768614336404564650}, -2, false},
		{[]int64{-768614336404564651}, -1, false},
		{[]int64{0}, top, true},
		{[]int64{top + 1}, 1, true},
		{[]int64{-top - 1}, -1, true},
		{[]int64{most64}, 1, true},
		{[]int64{least64}, -1, true},
	} {
		check(t, "P3.1: Recip", r, recipOf)
	}
}

func repeat(a int64, n int) []int64 { return slices.Repeat([]int64{a}, n) }

func TestHypot(t *testing.T) {
	for _, r := range []row{
		{[]int64{3 * one, 4 * one}, 5 * one, false},
		{[]int64{-3 * one, 4 * one}, 5 * one, false},
		{[]int64{3 * one, -4 * one, 12 * one}, 13 * one, false},
		{nil, 0, false},
		{[]int64{}, 0, false},
		{[]int64{0}, 0, false},
		{[]int64{0, 0, 0}, 0, false},
		{[]int64{7}, 7, false},
		{[]int64{-7}, 7, false},
		{[]int64{0, -7, 0}, 7, false},
		{[]int64{one}, one, false},
		{[]int64{top}, top, false},
		{[]int64{-top}, top, false},
		{[]int64{1 - top, 0}, top - 1, false},
		// The roots of 2, of 3, of 6 and of 7, rounded.
		{repeat(1, 2), 1, false},
		{repeat(-1, 3), 2, false},
		{repeat(1, 6), 2, false},
		{repeat(1, 7), 3, false},
		// It is rounded first, and clamped then.
		{[]int64{top, 1}, top, false},
		{[]int64{top, one}, top, false},
		{[]int64{top, one + 1}, top, true},
		{[]int64{-one - 1, -top}, top, true},
		{[]int64{top - 1, 1 << 31}, top, true},
		{[]int64{top, top}, top, true},
		{[]int64{-top, top, -top}, top, true},
		{repeat(top/8, 64), top, false},
		{repeat(-top/8, 64), top, false},
		{repeat(top/8+1, 64), top, true},
		{repeat(top, 63), top, true},
		{repeat(top, 64), top, true},
		{repeat(-top, 64), top, true},
		{repeat(top, 65), top, true},
		{append(repeat(top, 63), 1-top), top, true},
		// Each argument is clamped for itself.
		{[]int64{top + 1}, top, true},
		{[]int64{-top - 1}, top, true},
		{[]int64{0, most64}, top, true},
		{[]int64{least64, 0}, top, true},
		{repeat(most64, 64), top, true},
		{repeat(least64, 64), top, true},
	} {
		check(t, "P3.1: Hypot", r, root.Hypot)
	}
}

// The first 64 arguments are used, the others not looked at: what would be clamped there sets no flag.
func TestHypotUsesTheFirst(t *testing.T) {
	for _, r := range []row{
		{repeat(1, 63), 8, false},
		{repeat(1, 64), 8, false},
		{repeat(1, 65), 8, false},
		{repeat(1, 81), 8, false},
		{repeat(3, 70000), 24, false},
		{append(repeat(0, 63), 9), 9, false},
		{append(repeat(0, 64), 9), 0, false},
		{append(repeat(1, 63), 1<<50), 1 << 50, false},
		{append(repeat(1, 64), 1<<50), 8, false},
		{append(repeat(0, 64), top), 0, false},
		{append(repeat(1, 63), top+1), top, true},
		{append(repeat(1, 64), top+1), 8, false},
		{append(repeat(1, 63), least64), top, true},
		{append(repeat(1, 64), most64, least64), 8, false},
		{append(repeat(top/8, 64), one), top, false},
	} {
		check(t, "P3.1: Hypot", r, root.Hypot)
	}
}

func TestHypotLeavesItsListAlone(t *testing.T) {
	l := []int64{3, most64, least64, -4, top + 1, 8}
	want := slices.Clone(l)
	c := &fx.Acc{}
	for n := range l {
		if first, again := root.Hypot(c, l[:n]...), root.Hypot(c, l[:n]...); first != again {
			t.Errorf("R5: Hypot of %d numbers told first %d, then %d", n, first, again)
		}
	}
	if !slices.Equal(l, want) {
		t.Errorf("R4: Hypot made %v of %v", l, want)
	}
}

// distance checks that the root of a's square is near a.
func distance(t *testing.T, a int64) {
	t.Helper()
	c := &fx.Acc{}
	got := root.Sqrt(c, c.Mul(a, a, api.Q))
	if fx.Abs(got-a) > 1<<15 || c.Hit {
		t.Errorf("P3.2: the root of the square of %d is %d, flag %v", a, got, c.Hit)
	}
}

func TestSqrtOfSquares(t *testing.T) {
	for a := range int64(1 << 17) {
		distance(t, a)
	}
	for k := 17; k <= 45; k++ {
		for _, off := range []int64{0, 1, 2, 1 << 14, 1 << 15, 1 << 16} {
			distance(t, 1<<k-off)
			distance(t, min(1<<k+off, 1<<45))
		}
	}
	for i := range uint64(20000) {
		distance(t, strewn(i)>>(i%46)&(1<<45-1))
	}
}

// bounds checks that a length is neither less than one of the numbers nor more than all of them.
func bounds(t *testing.T, l []int64) {
	t.Helper()
	got := root.Hypot(&fx.Acc{}, l...)
	sum := &fx.Acc{}
	total := int64(0)
	for _, a := range l {
		total = sum.Add(total, fx.Abs(a))
		if got < fx.Abs(a) {
			t.Errorf("P3.2: Hypot of %v is %d, less than the size of %d", l, got, a)
		}
	}
	if got > total {
		t.Errorf("P3.2: Hypot of %v is %d, more than %d", l, got, total)
	}
}

func TestHypotIsBounded(t *testing.T) {
	for i := range uint64(20000) {
		var l []int64
		for k := range i % 65 {
			l = append(l, strewn(i*64+k)>>(i%64))
		}
		bounds(t, l)
		bounds(t, append(l[:len(l)/2], repeat(0, len(l)/2)...))
	}
	for a := range int64(40) {
		for b := range int64(40) {
			bounds(t, []int64{a, -b})
			bounds(t, []int64{top - a, b})
			bounds(t, []int64{-a, one + b, a - one})
		}
	}
}
