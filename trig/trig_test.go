package trig_test

import (
	"math"
	"testing"

	"astrolabe/api"
	"astrolabe/fx"
	"astrolabe/trig"
)

const (
	one     = api.One
	top     = api.Max
	least64 = math.MinInt64
	most64  = math.MaxInt64

	turn    = 6746518852
	half    = 3373259426
	quarter = 1686629713
	eighth  = 843314857
)

// row tells what a call of the given arguments answers, and whether it sets the flag.
type row struct {
	l    []int64
	want int64
	hit  bool
}

// check holds a call against what it must answer: with the flag not set before it, and with the flag set.
func check(t *testing.T, name string, r row, call func(c *fx.Acc, l ...int64) int64) {
	t.Helper()
	for _, before := range []bool{false, true} {
		c := &fx.Acc{Hit: before}
		for range 2 {
			if got := call(c, r.l...); got != r.want || c.Hit != (before || r.hit) {
				t.Errorf("%s of %v, flag %v: %d, flag %v, not %d, flag %v",
					name, r.l, before, got, c.Hit, r.want, before || r.hit)
			}
		}
	}
}

func sinOf(c *fx.Acc, l ...int64) int64   { return trig.Sin(c, l[0]) }
func cosOf(c *fx.Acc, l ...int64) int64   { return trig.Cos(c, l[0]) }
func atan2Of(c *fx.Acc, l ...int64) int64 { return trig.Atan2(c, l[0], l[1]) }
func asinOf(c *fx.Acc, l ...int64) int64  { return trig.Asin(c, l[0]) }

func TestWrap(t *testing.T) {
	for _, r := range [][2]int64{
		{0, 0},
		{5, 5},
		{-5, -5},
		// A half turn stays, minus a half turn does not.
		{half - 1, half - 1},
		{half, half},
		{half + 1, 1 - half},
		{1 - half, 1 - half},
		{-half, half},
		{-half - 1, half - 1},
		{turn - 1, -1},
		{turn, 0},
		{turn + 1, 1},
		{-turn - 1, -1},
		{-turn, 0},
		{1 - turn, 1},
		{turn + half, half},
		{turn + half + 1, 1 - half},
		{-turn - half, half},
		{-turn - half - 1, half - 1},
		{-turn - half + 1, 1 - half},
		{7*half + 3, 3 - half},
		{1000*turn - 9, -9},
		{-1000*turn + 9, 9},
		{top, -669798812},
		{-top, 669798812},
		{most64, 1388128355},
		{least64, -1388128356},
	} {
		if got := trig.Wrap(r[0]); got != r[1] {
			t.Errorf("P4.1: Wrap(%d) is %d, not %d", r[0], got, r[1])
		}
	}
}

func TestSin(t *testing.T) {
	for _, r := range []row{
		{[]int64{0}, 0, false},
		{[]int64{1}, 1, false},
		{[]int64{-1}, -1, false},
		{[]int64{1000000}, 1000000, false},
		{[]int64{one}, 903522590, false},
		{[]int64{-one}, -903522590, false},
		{[]int64{quarter}, one, false},
		{[]int64{-quarter}, -one, false},
		{[]int64{quarter - 1}, one, false},
		{[]int64{quarter + 1}, one, false},
		{[]int64{half}, 0, false},
		{[]int64{-half}, 0, false},
		{[]int64{half - 1}, 1, false},
		{[]int64{half + 1}, -1, false},
		{[]int64{3 * one}, 151526455, false},
		{[]int64{5 * one}, -1029637100, false},
		{[]int64{-7 * one}, -705433989, false},
		{[]int64{turn}, 0, false},
		{[]int64{-turn - quarter}, -one, false},
		{[]int64{1 << 59}, 329495853, false},
	} {
		check(t, "P4.2: Sin", r, sinOf)
	}
}

// What is clamped is clamped first, and wrapped then.
func TestSinBeyond(t *testing.T) {
	atTop := trig.Sin(&fx.Acc{}, top)
	for _, r := range []row{
		{[]int64{top}, atTop, false},
		{[]int64{-top}, -atTop, false},
		{[]int64{top + 1}, atTop, true},
		{[]int64{-top - 1}, -atTop, true},
		{[]int64{most64}, atTop, true},
		{[]int64{least64}, -atTop, true},
	} {
		check(t, "P4.2: Sin", r, sinOf)
	}
}

func TestCos(t *testing.T) {
	for _, r := range []row{
		{[]int64{0}, one, false},
		{[]int64{1}, one, false},
		{[]int64{-1}, one, false},
		{[]int64{1000000}, 1073741359, false},
		{[]int64{one}, 580145183, false},
		{[]int64{-one}, 580145183, false},
		{[]int64{quarter}, 0, false},
		{[]int64{-quarter}, 0, false},
		{[]int64{quarter + 1}, -1, false},
		{[]int64{-quarter + 1}, 1, false},
		{[]int64{half}, -one, false},
		{[]int64{-half}, -one, false},
		{[]int64{3 * one}, -1062996349, false},
		{[]int64{5 * one}, 304579953, false},
		{[]int64{-7 * one}, 809496382, false},
		{[]int64{turn}, one, false},
		{[]int64{1 << 59}, -1021936391, false},
	} {
		check(t, "P4.2: Cos", r, cosOf)
	}
}

// Cos wraps its argument instead of clamping it, however great it is.
func TestCosBeyond(t *testing.T) {
	for _, a := range []int64{top, -top, top + 1, -top - 1, top + quarter, most64, most64 - 1, least64, least64 + 1} {
		want := trig.Sin(&fx.Acc{}, quarter+trig.Wrap(a))
		check(t, "P4.2: Cos", row{[]int64{a}, want, false}, cosOf)
	}
}

func TestAtan2(t *testing.T) {
	for _, r := range []row{
		{[]int64{0, 0}, 0, false},
		{[]int64{one, one}, eighth, false},
		{[]int64{1, 1}, eighth, false},
		{[]int64{-1, 1}, -eighth, false},
		{[]int64{1, -1}, half - eighth, false},
		{[]int64{-1, -1}, eighth - half, false},
		{[]int64{top, top}, eighth, false},
		{[]int64{top, -top}, half - eighth, false},
		{[]int64{0, 5}, 0, false},
		{[]int64{0, top}, 0, false},
		{[]int64{0, -1}, half, false},
		{[]int64{0, -one}, half, false},
		{[]int64{1, 0}, quarter, false},
		{[]int64{-1, 0}, -quarter, false},
		{[]int64{top, 0}, quarter, false},
		{[]int64{-top, 0}, -quarter, false},
		{[]int64{1, one}, 1, false},
		{[]int64{1, top}, 0, false},
		{[]int64{-1, top}, 0, false},
		{[]int64{top, 1}, quarter, false},
		{[]int64{1, -top}, half, false},
		// What a negative y makes of the half turn is not wrapped.
		{[]int64{-1, -top}, -half, false},
		{[]int64{one, 2 * one}, 497837830, false},
		{[]int64{2 * one, one}, 1188791883, false},
		{[]int64{-one, 3 * one}, -345477027, false},
		{[]int64{one, -5}, 1686629718, false},
		{[]int64{-7, -one}, -3373259419, false},
		// About the tangent of a sixteenth of a turn.
		{[]int64{444758426, one}, 421657428, false},
		{[]int64{444758427, one}, 421657430, false},
		{[]int64{one, -444758426}, quarter + 421657428, false},
		{[]int64{-444758427, -one}, 421657430 - half, false},
	} {
		check(t, "P4.3: Atan2", r, atan2Of)
	}
}

func TestAtan2Beyond(t *testing.T) {
	for _, r := range []row{
		{[]int64{top + 1, top}, eighth, true},
		{[]int64{top, top + 1}, eighth, true},
		{[]int64{most64, top}, eighth, true},
		{[]int64{least64, most64}, -eighth, true},
		{[]int64{most64, least64}, half - eighth, true},
		{[]int64{least64, least64}, eighth - half, true},
		{[]int64{0, most64}, 0, true},
		{[]int64{0, least64}, half, true},
		{[]int64{most64, 0}, quarter, true},
		{[]int64{least64, 0}, -quarter, true},
		{[]int64{-top - 1, 1}, -quarter, true},
	} {
		check(t, "P4.3: Atan2", r, atan2Of)
	}
}

func TestAsin(t *testing.T) {
	for _, r := range []row{
		{[]int64{0}, 0, false},
		{[]int64{1}, 1, false},
		{[]int64{-1}, -1, false},
		{[]int64{5}, 5, false},
		{[]int64{one / 2}, 562209904, false},
		{[]int64{-one / 2}, -562209904, false},
		{[]int64{-900000000}, -1067252657, false},
		{[]int64{one}, quarter, false},
		{[]int64{-one}, -quarter, false},
		{[]int64{one + 1}, quarter, true},
		{[]int64{-one - 1}, -quarter, true},
		{[]int64{2 * one}, quarter, true},
		{[]int64{-2 * one}, -quarter, true},
		{[]int64{top + 1}, quarter, true},
		{[]int64{most64}, quarter, true},
		{[]int64{least64}, -quarter, true},
	} {
		check(t, "P4.4: Asin", r, asinOf)
	}
}

// near checks that an answer is within 40 of what it stands for.
func near(t *testing.T, name string, got int64, exact float64, l ...int64) {
	t.Helper()
	if math.Abs(float64(got)-exact*one) > 40 {
		t.Fatalf("P4.5: %s of %v is %d, not near %f", name, l, got, exact*one)
	}
}

func TestSinesAreNear(t *testing.T) {
	c := &fx.Acc{}
	at := func(a int64) {
		t.Helper()
		near(t, "Sin", trig.Sin(c, a), math.Sin(float64(a)/one), a)
		near(t, "Cos", trig.Cos(c, a), math.Cos(float64(a)/one), a)
	}
	for a := int64(-8 * one); a <= 8*one; a += 98765 {
		at(a)
	}
	// From each border between two of its ways of reckoning, and from both ends.
	for k := int64(-10); k <= 10; k++ {
		for off := int64(-100); off <= 100; off++ {
			at(min(max(k*eighth+off, -8*one), 8*one))
		}
	}
	at(8 * one)
	if c.Hit {
		t.Error("P4.5: Sin and Cos of angles from -8 to 8 set the flag")
	}
}

func TestAnglesAreNear(t *testing.T) {
	c := &fx.Acc{}
	at := func(y, x int64) {
		t.Helper()
		for _, p := range [][2]int64{{y, x}, {-y, x}, {y, -x}, {-y, -x}, {x, y}, {-x, y}, {x, -y}, {-x, -y}} {
			near(t, "Atan2", trig.Atan2(c, p[0], p[1]), math.Atan2(float64(p[0]), float64(p[1])), p[0], p[1])
		}
	}
	for k := 20; k <= 60; k++ {
		for _, far := range []int64{1 << k, 1<<k - 1 + 1<<(k-1), 1<<k + 1} {
			far = min(far, top)
			for i := range int64(300) {
				at(far/300*i+i, far)
				at(sat(strewn(uint64(i))>>(i%63), top), far)
			}
			at(far, far)
		}
	}
	for y := int64(0); y <= 1<<20; y += 37 {
		at(y, 1<<20)
	}
}
