package fx_test

import (
	"fmt"
	"math"
	"slices"
	"testing"

	"astrolabe/api"
	"astrolabe/fx"
)

const (
	one     = api.One
	top     = api.Max
	least64 = math.MinInt64
	most64  = math.MaxInt64
	// Three times third is 2^61 + 1, five times fifth 2^62 + 1: halved and quartered, they lie half and a quarter beyond top.
	third = (1<<61 + 1) / 3
	fifth = (1<<62 + 1) / 5
)

// row tells what a call of the given arguments answers, and whether it sets the flag.
type row struct {
	l    []int64
	s    int
	want int64
	hit  bool
}

// check holds a call against what it must answer: with the flag not set before it, and with the flag set.
func check(t *testing.T, name string, r row, call func(c *fx.Acc) int64) {
	t.Helper()
	for _, before := range []bool{false, true} {
		c := &fx.Acc{Hit: before}
		for range 2 {
			if got := call(c); got != r.want || c.Hit != (before || r.hit) {
				t.Errorf("%s of %v, s %d, flag %v: %d, flag %v, not %d, flag %v",
					name, r.l, r.s, before, got, c.Hit, r.want, before || r.hit)
			}
		}
	}
}

func TestClamp(t *testing.T) {
	for _, r := range []row{
		{[]int64{5, 1, 9}, 0, 5, false},
		{[]int64{10, 1, 9}, 0, 9, true},
		{[]int64{0, 1, 9}, 0, 1, true},
		{[]int64{1, 1, 9}, 0, 1, false},
		{[]int64{9, 1, 9}, 0, 9, false},
		{[]int64{-5, -9, -1}, 0, -5, false},
		{[]int64{-10, -9, -1}, 0, -9, true},
		{[]int64{0, -9, -1}, 0, -1, true},
		{[]int64{4, 4, 4}, 0, 4, false},
		{[]int64{3, 4, 4}, 0, 4, true},
		{[]int64{5, 4, 4}, 0, 4, true},
		{[]int64{5, 9, 1}, 0, 9, true},
		{[]int64{9, 9, 1}, 0, 9, true},
		{[]int64{1, 9, 1}, 0, 9, true},
		{[]int64{0, 9, 1}, 0, 9, true},
		{[]int64{10, 9, 1}, 0, 9, true},
		{[]int64{9, 9, 8}, 0, 9, true},
		{[]int64{0, most64, least64}, 0, most64, true},
		{[]int64{most64, most64, least64}, 0, most64, true},
		// Clamp alone leaves its arguments as they are, beyond Max too.
		{[]int64{most64, least64, most64}, 0, most64, false},
		{[]int64{least64, least64, most64}, 0, least64, false},
		{[]int64{most64, 0, most64 - 1}, 0, most64 - 1, true},
		{[]int64{least64, least64 + 1, 0}, 0, least64 + 1, true},
		{[]int64{top + 5, top + 1, top + 9}, 0, top + 5, false},
		{[]int64{0, top + 1, most64}, 0, top + 1, true},
		{[]int64{0, least64, -top - 1}, 0, -top - 1, true},
	} {
		check(t, "P2.1: Clamp", r, func(c *fx.Acc) int64 { return c.Clamp(r.l[0], r.l[1], r.l[2]) })
	}
}

func TestSat(t *testing.T) {
	for _, r := range []row{
		{[]int64{0}, 0, 0, false},
		{[]int64{-7}, 0, -7, false},
		{[]int64{top - 1}, 0, top - 1, false},
		{[]int64{top}, 0, top, false},
		{[]int64{top + 1}, 0, top, true},
		{[]int64{1 - top}, 0, 1 - top, false},
		{[]int64{-top}, 0, -top, false},
		{[]int64{-top - 1}, 0, -top, true},
		{[]int64{most64}, 0, top, true},
		{[]int64{least64}, 0, -top, true},
	} {
		check(t, "P2.1: Sat", r, func(c *fx.Acc) int64 { return c.Sat(r.l[0]) })
	}
}

func TestAdd(t *testing.T) {
	many, falling := make([]int64, 100), make([]int64, 100)
	for i := range many {
		many[i], falling[i] = top, -top
	}
	for _, r := range []row{
		{nil, 0, 0, false},
		{[]int64{}, 0, 0, false},
		{[]int64{5}, 0, 5, false},
		{[]int64{-top}, 0, -top, false},
		{[]int64{1, 2, -7}, 0, -4, false},
		{[]int64{top, 1}, 0, top, true},
		{[]int64{top, 0}, 0, top, false},
		{[]int64{top - 1, 1}, 0, top, false},
		{[]int64{-top, -1}, 0, -top, true},
		{[]int64{1 - top, -1}, 0, -top, false},
		// A sum on the way may go beyond Max.
		{[]int64{top, 1, -1}, 0, top, false},
		{[]int64{top, top, -top}, 0, top, false},
		{[]int64{-top, -top, top, 3}, 0, 3 - top, false},
		{slices.Concat(many[:16], falling[:16], []int64{-9}), 0, -9, false},
		{many[:8], 0, top, true},
		{many[:16], 0, top, true},
		{many, 0, top, true},
		{falling[:9], 0, -top, true},
		{falling, 0, -top, true},
		{slices.Concat(falling, many[1:]), 0, -top, false},
		// Each argument is clamped for itself.
		{[]int64{top + 1, -1}, 0, top - 1, true},
		{[]int64{-1, top + 1}, 0, top - 1, true},
		{[]int64{least64, 1}, 0, 1 - top, true},
		{[]int64{most64, least64}, 0, 0, true},
		{[]int64{most64, -top, 2}, 0, 2, true},
	} {
		check(t, "P2.1: Add", r, func(c *fx.Acc) int64 { return c.Add(r.l...) })
	}
}

func TestSub(t *testing.T) {
	for _, r := range []row{
		{[]int64{3, 5}, 0, -2, false},
		{[]int64{5, 3}, 0, 2, false},
		{[]int64{top, top}, 0, 0, false},
		{[]int64{0, top}, 0, -top, false},
		{[]int64{0, -top}, 0, top, false},
		{[]int64{top, -1}, 0, top, true},
		{[]int64{-top, 1}, 0, -top, true},
		{[]int64{top, -top}, 0, top, true},
		{[]int64{-top, top}, 0, -top, true},
		{[]int64{top + 1, 1}, 0, top - 1, true},
		{[]int64{1, top + 1}, 0, 1 - top, true},
		{[]int64{-top - 1, -1}, 0, 1 - top, true},
		{[]int64{0, least64}, 0, top, true},
		{[]int64{-1, least64}, 0, top - 1, true},
		{[]int64{least64, most64}, 0, -top, true},
		{[]int64{most64, most64}, 0, 0, true},
		{[]int64{least64, least64}, 0, 0, true},
	} {
		check(t, "P2.1: Sub", r, func(c *fx.Acc) int64 { return c.Sub(r.l[0], r.l[1]) })
	}
}

func TestMul(t *testing.T) {
	for _, r := range []row{
		{[]int64{one, one}, 30, one, false},
		{[]int64{3, one / 2}, 30, 2, false},
		{[]int64{-3, one / 2}, 30, -2, false},
		{[]int64{-3, -one / 2}, 30, 2, false},
		{[]int64{3, one/2 - 1}, 30, 1, false},
		{[]int64{1, 1}, 1, 1, false},
		{[]int64{-1, 1}, 1, -1, false},
		{[]int64{1, 1}, 2, 0, false},
		{[]int64{-1, 1}, 2, 0, false},
		{[]int64{6, 7}, 0, 42, false},
		{[]int64{0, top}, 0, 0, false},
		{[]int64{top, 1}, 0, top, false},
		{[]int64{top, 2}, 0, top, true},
		{[]int64{top, -2}, 0, -top, true},
		{[]int64{top, 2}, 1, top, false},
		{[]int64{top, top}, 60, top, false},
		{[]int64{top, -top}, 60, -top, false},
		{[]int64{top, top}, 59, top, true},
		{[]int64{-top, top}, 59, -top, true},
		{[]int64{top, top}, 0, top, true},
		{[]int64{top, -top}, 0, -top, true},
		{[]int64{-top, -top}, 0, top, true},
		// It is rounded first, and clamped then.
		{[]int64{third, 3}, 1, top, true},
		{[]int64{third, -3}, 1, -top, true},
		{[]int64{fifth, 5}, 2, top, false},
		{[]int64{-fifth, 5}, 2, -top, false},
		{[]int64{top, top}, 120, 1, false},
		{[]int64{top, -top}, 120, -1, false},
		{[]int64{top, top / 2}, 120, 1, false},
		{[]int64{top, -top / 2}, 120, -1, false},
		{[]int64{top, top/2 - 1}, 120, 0, false},
		{[]int64{top, top}, 119, 2, false},
		{[]int64{1, 1}, 121, 0, true},
		{[]int64{top, top}, 121, 0, true},
		{[]int64{1, 1}, -1, 0, true},
		{[]int64{0, 0}, -1, 0, true},
		{[]int64{1, 1}, math.MaxInt, 0, true},
		{[]int64{1, 1}, math.MinInt, 0, true},
		{[]int64{top + 1, 1}, 0, top, true},
		{[]int64{1, -top - 1}, 0, -top, true},
		{[]int64{most64, one}, 60, one, true},
		{[]int64{one, least64}, 60, -one, true},
		{[]int64{0, most64}, 0, 0, true},
	} {
		check(t, "P2.1: Mul", r, func(c *fx.Acc) int64 { return c.Mul(r.l[0], r.l[1], r.s) })
	}
}

func TestDiv(t *testing.T) {
	for _, r := range []row{
		{[]int64{one, 3}, 0, 357913941, false},
		{[]int64{one, one}, 30, one, false},
		{[]int64{7, 2}, 0, 4, false},
		{[]int64{-7, 2}, 0, -4, false},
		{[]int64{7, -2}, 0, -4, false},
		{[]int64{-7, -2}, 0, 4, false},
		{[]int64{1, 2}, 0, 1, false},
		{[]int64{1, 3}, 0, 0, false},
		{[]int64{2, 3}, 0, 1, false},
		{[]int64{-2, 3}, 0, -1, false},
		{[]int64{0, -5}, 66, 0, false},
		{[]int64{top, 1}, 0, top, false},
		{[]int64{top, -1}, 0, -top, false},
		{[]int64{top, 1}, 1, top, true},
		{[]int64{top, 2}, 1, top, false},
		{[]int64{-top, 1}, 1, -top, true},
		{[]int64{-top, -1}, 1, top, true},
		{[]int64{top, 1}, 66, top, true},
		{[]int64{top, -1}, 66, -top, true},
		{[]int64{-top, -1}, 66, top, true},
		{[]int64{top, top}, 60, top, false},
		{[]int64{top, -top}, 60, -top, false},
		{[]int64{top, top}, 61, top, true},
		{[]int64{1, top}, 66, 64, false},
		{[]int64{-1, top}, 66, -64, false},
		{[]int64{1, top}, 59, 1, false},
		{[]int64{-1, top}, 59, -1, false},
		{[]int64{1, top}, 58, 0, false},
		{[]int64{1, 1}, 67, 0, true},
		{[]int64{1, 1}, -1, 0, true},
		{[]int64{1, 1}, math.MaxInt, 0, true},
		{[]int64{1, 1}, math.MinInt, 0, true},
		{[]int64{5, 0}, 67, 0, true},
		{[]int64{-5, 0}, -1, 0, true},
		{[]int64{5, 0}, 0, top, true},
		{[]int64{1, 0}, 66, top, true},
		{[]int64{-5, 0}, 0, -top, true},
		{[]int64{-1, 0}, 66, -top, true},
		{[]int64{0, 0}, 0, 0, true},
		{[]int64{0, 0}, 66, 0, true},
		{[]int64{top + 1, 2}, 0, top / 2, true},
		{[]int64{least64, 2}, 0, -top / 2, true},
		{[]int64{top, top + 1}, 1, 2, true},
		{[]int64{top, least64}, 1, -2, true},
		{[]int64{most64, most64}, 0, 1, true},
		{[]int64{0, most64}, 0, 0, true},
	} {
		check(t, "P2.1: Div", r, func(c *fx.Acc) int64 { return c.Div(r.l[0], r.l[1], r.s) })
	}
}

func TestMulDiv(t *testing.T) {
	for _, r := range []row{
		{[]int64{7, 1, 2}, 0, 4, false},
		{[]int64{-7, 1, 2}, 0, -4, false},
		{[]int64{7, -1, 2}, 0, -4, false},
		{[]int64{7, 1, -2}, 0, -4, false},
		{[]int64{-7, -1, -2}, 0, -4, false},
		{[]int64{1, 1, 3}, 0, 0, false},
		{[]int64{2, 1, -3}, 0, -1, false},
		{[]int64{0, 5, -3}, 0, 0, false},
		{[]int64{top, 3, 6}, 0, top / 2, false},
		{[]int64{top, top, top}, 0, top, false},
		{[]int64{top, top, -top}, 0, -top, false},
		{[]int64{top, top, top - 1}, 0, top, true},
		{[]int64{top, top, 1 - top}, 0, -top, true},
		{[]int64{top, top, 1}, 0, top, true},
		{[]int64{top, -top, 1}, 0, -top, true},
		{[]int64{-top, -top, -1}, 0, -top, true},
		{[]int64{top, -top, -1}, 0, top, true},
		{[]int64{third, 3, 2}, 0, top, true},
		{[]int64{third, 3, -2}, 0, -top, true},
		{[]int64{fifth, 5, 4}, 0, top, false},
		{[]int64{fifth, -5, 4}, 0, -top, false},
		{[]int64{7, 1, 0}, 0, top, true},
		{[]int64{-7, 1, 0}, 0, -top, true},
		{[]int64{7, -1, 0}, 0, -top, true},
		{[]int64{-7, -1, 0}, 0, top, true},
		{[]int64{0, 7, 0}, 0, 0, true},
		{[]int64{-7, 0, 0}, 0, 0, true},
		{[]int64{0, 0, 0}, 0, 0, true},
		{[]int64{top + 1, 1, 2}, 0, top / 2, true},
		{[]int64{1, least64, 2}, 0, -top / 2, true},
		{[]int64{2, top, most64}, 0, 2, true},
		{[]int64{2, top, least64}, 0, -2, true},
		{[]int64{most64, most64, most64}, 0, top, true},
		{[]int64{0, 0, least64}, 0, 0, true},
	} {
		check(t, "P2.1: MulDiv", r, func(c *fx.Acc) int64 { return c.MulDiv(r.l[0], r.l[1], r.l[2]) })
	}
}

func repeat(a int64, n int) []int64 { return slices.Repeat([]int64{a}, n) }

func TestDot(t *testing.T) {
	for i, r := range []struct {
		s    int
		a, b []int64
		want int64
		hit  bool
	}{
		{30, []int64{one, one}, []int64{one, 5}, one + 5, false},
		{0, nil, nil, 0, false},
		{120, []int64{}, nil, 0, false},
		{0, []int64{1, 2, 3}, []int64{-4, 5, 6}, 24, false},
		// They are rounded once: each product alone would be rounded up.
		{1, []int64{1, 1}, []int64{1, 1}, 1, false},
		{1, []int64{1, 1}, []int64{1, 2}, 2, false},
		{1, []int64{-1, -1}, []int64{1, 2}, -2, false},
		{2, []int64{1, 1, 1}, []int64{1, 1, 1}, 1, false},
		{2, []int64{-1}, []int64{1}, 0, false},
		{2, []int64{-2}, []int64{1}, -1, false},
		// The list that ends first tells how many; what is not multiplied is not looked at.
		{0, nil, []int64{most64}, 0, false},
		{0, []int64{least64}, nil, 0, false},
		{0, []int64{1, 2, most64}, []int64{3, 4}, 11, false},
		{0, []int64{3, 4}, []int64{1, 2, least64}, 11, false},
		{0, repeat(2, 99), repeat(3, 200), 594, false},
		{0, repeat(2, 100), repeat(3, 100), 600, false},
		{0, repeat(2, 101), repeat(3, 101), 600, false},
		{0, repeat(2, 200), repeat(3, 101), 600, false},
		{0, slices.Concat(repeat(2, 100), repeat(most64, 9)), repeat(3, 109), 600, false},
		{0, repeat(3, 109), slices.Concat(repeat(2, 100), repeat(least64, 9)), 600, false},
		{0, slices.Concat(repeat(2, 99), []int64{top + 1}), repeat(1, 100), top, true},
		// A sum on the way may go beyond Max.
		{60, []int64{top, top, -top}, []int64{top, top, top}, top, false},
		{0, []int64{top, -top, 5}, []int64{top, top, 1}, 5, false},
		{0, slices.Concat(repeat(top, 50), repeat(-top, 50)), repeat(top, 100), 0, false},
		{120, repeat(top, 100), repeat(top, 100), 100, false},
		{120, repeat(top, 100), repeat(-top, 100), -100, false},
		{66, repeat(top, 64), repeat(top, 64), top, false},
		{66, repeat(top, 65), repeat(top, 65), top, true},
		{66, repeat(top, 64), repeat(-top, 64), -top, false},
		{66, repeat(-top, 65), repeat(top, 65), -top, true},
		{0, repeat(top, 100), repeat(top, 100), top, true},
		{0, repeat(-top, 100), repeat(top, 100), -top, true},
		{0, []int64{top, 1}, []int64{1, 0}, top, false},
		{0, []int64{top, 1}, []int64{1, 1}, top, true},
		{0, []int64{-top, 1}, []int64{1, -1}, -top, true},
		{2, []int64{top, 1}, []int64{4, 1}, top, false},
		{2, []int64{top, 1}, []int64{4, 2}, top, true},
		{2, []int64{top, 1}, []int64{-4, -1}, -top, false},
		{2, []int64{top, 1}, []int64{-4, -2}, -top, true},
		// Each number is clamped for itself.
		{30, []int64{top + 1}, []int64{one}, top, true},
		{30, []int64{one}, []int64{-top - 1}, -top, true},
		{0, []int64{top + 1, top}, []int64{1, -1}, 0, true},
		{0, []int64{1, -1}, []int64{most64, top}, 0, true},
		{0, []int64{5, least64}, []int64{1, 0}, 5, true},
		{121, []int64{1}, []int64{1}, 0, true},
		{-1, []int64{1}, []int64{1}, 0, true},
		{121, nil, nil, 0, true},
		{-1, nil, nil, 0, true},
		{math.MaxInt, []int64{1}, []int64{1}, 0, true},
		{math.MinInt, []int64{1}, []int64{1}, 0, true},
	} {
		name := fmt.Sprintf("P2.1: Dot, line %d,", i)
		check(t, name, row{r.a, r.s, r.want, r.hit}, func(c *fx.Acc) int64 { return c.Dot(r.s, r.a, r.b) })
		check(t, name+" turned,", row{r.b, r.s, r.want, r.hit}, func(c *fx.Acc) int64 { return c.Dot(r.s, r.b, r.a) })
	}
}

func TestMerge(t *testing.T) {
	set, unset := &fx.Acc{Hit: true}, &fx.Acc{}
	for i, r := range []struct {
		l    []*fx.Acc
		want bool
	}{
		{nil, false},
		{[]*fx.Acc{}, false},
		{[]*fx.Acc{unset}, false},
		{[]*fx.Acc{unset, unset, unset}, false},
		{[]*fx.Acc{set}, true},
		{[]*fx.Acc{set, unset, unset}, true},
		{[]*fx.Acc{unset, set, unset}, true},
		{[]*fx.Acc{unset, unset, set}, true},
		{[]*fx.Acc{set, set}, true},
	} {
		for _, before := range []bool{false, true} {
			c := &fx.Acc{Hit: before}
			if c.Merge(r.l...); c.Hit != (before || r.want) {
				t.Errorf("P2.2: Merge, line %d, flag %v: flag %v", i, before, c.Hit)
			}
		}
		if !set.Hit || unset.Hit {
			t.Fatalf("P2.2: Merge, line %d, changed a flag that it was handed", i)
		}
	}
	for _, before := range []bool{false, true} {
		c := &fx.Acc{Hit: before}
		if c.Merge(c, unset); c.Hit != before {
			t.Errorf("P2.2: Merge of the flag %v with itself: %v", before, c.Hit)
		}
	}
}

func TestAbs(t *testing.T) {
	for _, r := range [][2]int64{
		{-5, 5}, {5, 5}, {0, 0}, {1, 1}, {-1, 1},
		{top, top}, {-top, top}, {top - 1, top - 1}, {1 - top, top - 1},
		{top + 1, top}, {-top - 1, top}, {most64, top}, {least64, top}, {least64 + 1, top},
	} {
		if got := fx.Abs(r[0]); got != r[1] {
			t.Errorf("P2.2: Abs(%d) is %d, not %d", r[0], got, r[1])
		}
	}
}

// The flag stays set through every call that clamps nothing, and those calls do not set it.
func TestNothingResetsTheFlag(t *testing.T) {
	for i, call := range []func(c *fx.Acc){
		func(c *fx.Acc) { c.Clamp(5, 1, 9) },
		func(c *fx.Acc) { c.Sat(5) },
		func(c *fx.Acc) { c.Add() },
		func(c *fx.Acc) { c.Add(1, 2) },
		func(c *fx.Acc) { c.Sub(1, 2) },
		func(c *fx.Acc) { c.Mul(1, 2, 30) },
		func(c *fx.Acc) { c.Div(1, 2, 30) },
		func(c *fx.Acc) { c.MulDiv(1, 2, 3) },
		func(c *fx.Acc) { c.Dot(30, nil, nil) },
		func(c *fx.Acc) { c.Dot(30, []int64{1}, []int64{2}) },
		func(c *fx.Acc) { c.Merge() },
		func(c *fx.Acc) { c.Merge(&fx.Acc{}) },
	} {
		c := &fx.Acc{}
		if call(c); c.Hit {
			t.Errorf("P2.3: call %d sets the flag and clamps nothing", i)
		}
		c.Sat(top + 1)
		if call(c); !c.Hit {
			t.Errorf("P2.3: call %d resets the flag", i)
		}
	}
}

// One Acc's flag says nothing of another's, and a value copied from an Acc has a flag of its own.
func TestFlagsAreApart(t *testing.T) {
	a, b := fx.Acc{}, fx.Acc{}
	early := a
	a.Add(top, 1)
	if !a.Hit || b.Hit || early.Hit {
		t.Errorf("R5: flags %v, %v, %v, not true, false, false", a.Hit, b.Hit, early.Hit)
	}
}

func TestListsAreLeftAlone(t *testing.T) {
	a := []int64{3, most64, least64, -4, top + 1, 8}
	b := []int64{least64, 7, 2, -top - 1, 6, most64}
	wantA, wantB := slices.Clone(a), slices.Clone(b)
	c := &fx.Acc{}
	for n := range a {
		if c.Add(a[:n]...) != c.Add(a[:n]...) || c.Dot(30, a[:n], b) != c.Dot(30, a[:n], b) {
			t.Errorf("R5: a call with %d numbers does not answer the same again", n)
		}
	}
	if !slices.Equal(a, wantA) || !slices.Equal(b, wantB) {
		t.Errorf("R4: Add or Dot made %v and %v of their lists", a, b)
	}
	accs := []*fx.Acc{{}, {Hit: true}, {}}
	want := slices.Clone(accs)
	c.Merge(accs[:2]...)
	if !slices.Equal(accs, want) || accs[0].Hit || !accs[1].Hit || accs[2].Hit {
		t.Errorf("R4: Merge changed its list")
	}
}
