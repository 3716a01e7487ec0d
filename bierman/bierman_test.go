package bierman_test

import (
	"fmt"
	"math"
	"slices"
	"testing"

	"astrolabe/api"
	"astrolabe/bierman"
	"astrolabe/fx"
	"astrolabe/tri"
)

const (
	n       = 24
	one     = api.One
	dOne    = api.DOne
	top     = api.Max
	dMost   = 1 << 56
	least64 = math.MinInt64
	most64  = math.MaxInt64
)

// edges are numbers at the bounds, beyond them and between them.
func edges() []int64 {
	return []int64{least64, -top - 1, -top, -dOne, -one, -1, 0, 1, one, dOne, dMost, dMost + 1, top, top + 1, most64}
}

// entry is a number of U.
type entry struct {
	i, j int
	v    int64
}

// made is a covariance of the first numbers of D, the others being 1, and of some numbers of U, the others being 0.
func made(d []int64, u ...entry) api.Cov {
	var p api.Cov
	for i := range p.D {
		p.D[i] = 1
	}
	copy(p.D[:], d)
	for _, e := range u {
		p.U[e.j*(e.j-1)/2+e.i] = e.v
	}
	return p
}

// at is a covariance with a variance at each of two states, the others being 1, and a number of U between them.
func at(i, j int, di, dj, u int64) api.Cov {
	p := made(nil, entry{i, j, u})
	p.D[i], p.D[j] = di, dj
	return p
}

// row is one of the first numbers, the others being 0.
func row(l ...int64) bierman.Row {
	var h bierman.Row
	copy(h[:], l)
	return h
}

// rising gives as many numbers, each one more than the one ahead of it.
func rising(from int64, count int) []int64 {
	var l []int64
	for i := range count {
		l = append(l, from+int64(i))
	}
	return l
}

// filled is a good covariance, no two numbers of which are alike.
func filled() api.Cov {
	p := made(rising(dOne, n))
	copy(p.U[:], rising(1000, len(p.U)))
	return p
}

// kept is what is left of a covariance within its bounds.
func kept(p api.Cov) api.Cov {
	for i, d := range p.D {
		p.D[i] = min(max(d, 1), dMost)
	}
	for k, u := range p.U {
		p.U[k] = min(max(u, -top), top)
	}
	return p
}

// learnt is what an update answers.
type learnt struct {
	p   api.Cov
	k   bierman.Row
	all int64
}

// asked is an update, what it answers, and whether it sets the flag.
type asked struct {
	p    api.Cov
	h    bierman.Row
	r    int64
	want learnt
	hit  bool
}

// check holds a call against what it must answer: with the flag not set before it, and with the flag set.
func check[A comparable](t *testing.T, name string, want A, hit bool, call func(c *fx.Acc) A) {
	t.Helper()
	for _, before := range []bool{false, true} {
		c := &fx.Acc{Hit: before}
		for range 2 {
			if got := call(c); got != want || c.Hit != (before || hit) {
				t.Fatalf("%s, flag %v: %v, flag %v, not %v, flag %v", name, before, got, c.Hit, want, before || hit)
			}
		}
	}
}

func update(c *fx.Acc, p api.Cov, h bierman.Row, r int64) learnt {
	q, k, all := bierman.Update(c, p, h, r)
	return learnt{q, k, all}
}

func checkUpdates(t *testing.T, name string, l []asked) {
	t.Helper()
	for i, a := range l {
		name := fmt.Sprintf("%s, line %d", name, i)
		check(t, name, a.want, a.hit, func(c *fx.Acc) learnt { return update(c, a.p, a.h, a.r) })
		checkProperties(t, name, a.p, a.r, a.want)
	}
}

// checkInnovations is for what an innovation answers with its flag; it is what the update answers too, but that may clamp more.
func checkInnovations(t *testing.T, name string, p api.Cov, h bierman.Row, r, want int64, hit bool) {
	t.Helper()
	check(t, name, want, hit, func(c *fx.Acc) int64 { return bierman.Innovation(c, p, h, r) })
	c := &fx.Acc{}
	if got := update(c, p, h, r); got.all != want || hit && !c.Hit {
		t.Fatalf("P11.2: Update, as %s: %d, flag %v", name, got.all, c.Hit)
	}
}

func checkProperties(t *testing.T, name string, p api.Cov, r int64, got learnt) {
	t.Helper()
	if !tri.Good(got.p) {
		t.Fatalf("P11.3: %s: %v is not good", name, got.p)
	}
	for i, d := range kept(p).D {
		if got.p.D[i] > d {
			t.Fatalf("P11.3: %s: D grows from %d to %d at %d", name, d, got.p.D[i], i)
		}
	}
	if got.all < min(max(r, 1), dMost) {
		t.Fatalf("P11.3: %s: the variance %d is less than %d", name, got.all, r)
	}
}

func TestPick(t *testing.T) {
	outside := []int{-1, -2, -24, 24, 25, 48, 276, 1 << 31, -1 << 31, 1 << 32, 1<<32 + 1, math.MaxInt, math.MinInt, math.MinInt + 1}
	all := slices.Repeat([]int64{one}, n)
	var states []int
	for i := range n {
		states = append(states, i)
	}
	for _, r := range []struct {
		l    []int
		want bierman.Row
	}{
		{nil, bierman.Row{}},
		{[]int{}, bierman.Row{}},
		{[]int{0}, row(one)},
		{[]int{3, 0, 23, 24, -1, 3}, bierman.Row{0: one, 3: one, 23: one}},
		{[]int{1, 1, 1}, row(0, one)},
		{outside, bierman.Row{}},
		{states, row(all...)},
		{slices.Concat(outside, states, outside, states), row(all...)},
	} {
		if got := bierman.Pick(r.l...); got != r.want {
			t.Errorf("P11.1: Pick(%v) is %v", r.l, got)
		}
	}
	for i := range n {
		var want bierman.Row
		want[i] = one
		for _, wrong := range outside {
			if bierman.Pick(wrong, i) != want || bierman.Pick(i, wrong) != want || bierman.Pick(i) != want {
				t.Errorf("P11.1: Pick of %d, or with %d", i, wrong)
			}
		}
	}
}

func TestPickLeavesItsListAlone(t *testing.T) {
	l := []int{3, 24, -1, 3, 0, 7}
	want := slices.Clone(l)
	bierman.Pick(l[:4]...)
	if !slices.Equal(l, want) {
		t.Errorf("R4: Pick made %v of its list", l)
	}
}

func TestInnovation(t *testing.T) {
	pair := made([]int64{4 * dOne, 8 * dOne}, entry{0, 1, one / 2})
	three := made([]int64{4 * dOne, 8 * dOne, 16 * dOne}, entry{0, 1, one}, entry{0, 2, -2 * one}, entry{1, 2, 3 * one})
	last := made(nil, entry{0, 23, 5 * one})
	last.D[23] = dOne
	for i, r := range []struct {
		p    api.Cov
		h    bierman.Row
		r    int64
		want int64
		hit  bool
	}{
		{tri.New(&fx.Acc{}, dOne), bierman.Pick(0), dOne, 2 * dOne, false},
		{filled(), bierman.Row{}, 0, 1, true},
		{filled(), bierman.Row{}, 1, 1, false},
		{filled(), bierman.Row{}, 77, 77, false},
		{pair, bierman.Pick(0), 7, 6*dOne + 7, false},
		{pair, bierman.Pick(1), 7, 8*dOne + 7, false},
		{pair, bierman.Pick(0, 1), 7, 22*dOne + 7, false},
		{pair, row(one, -one), 7, 6*dOne + 7, false},
		{pair, row(-2*one, one), 7, 4*4*dOne + 7, false},
		{pair, row(one, one/2), 7, 4*dOne + 8*dOne + 7, false},
		{pair, row(0, 0, one), 7, 8, false},
		{three, bierman.Pick(0), 1, (4+8+4*16)*dOne + 1, false},
		{three, bierman.Pick(1), 1, (8+9*16)*dOne + 1, false},
		{three, bierman.Pick(0, 1, 2), 1, (4+4*8+4*16)*dOne + 1, false},
		{three, row(3*one, -3*one, one), 1, (9*4+14*14*16)*dOne + 1, false},
		{last, bierman.Pick(0), 1, 1 + 1 + 25*dOne, false},
		{last, bierman.Pick(23), 1, dOne + 1, false},
		// Each number is rounded where it arises, halves away from 0: that of the column, that times its variance, and the sum's part.
		{made([]int64{1, 1}, entry{0, 1, one / 2}), row(one), 1, 1 + 1 + 1, false},
		{made([]int64{1, 1}, entry{0, 1, -one / 2}), row(one), 1, 1 + 1 + 1, false},
		{made([]int64{1, 1}, entry{0, 1, one/2 - 1}), row(one), 1, 1 + 1, false},
		{made([]int64{3}), row(one / 2), 1, 1 + 1, false},
		{made([]int64{5}), row(one / 2), 1, 1 + 2, false},
		{made([]int64{dOne, dOne}, entry{0, 1, 1}), row(one / 2), 1, 1 + dOne/4, false},
		// Two halves of one column are summed ahead of rounding.
		{made([]int64{1, 1, 1 << 50}, entry{0, 2, 1}, entry{1, 2, 1}), row(one/2, one/2, 1<<15), 5, 5 + 2 + 1<<20 + 1<<6, false},
	} {
		checkInnovations(t, fmt.Sprintf("P11.1: Innovation, line %d", i), r.p, r.h, r.r, r.want, r.hit)
	}
}

// Each number of h, D and U has a place of its own.
func TestInnovationAtEachPlace(t *testing.T) {
	for j := range n {
		p := made(nil)
		p.D[j] = 4 * dOne
		var h bierman.Row
		h[j] = 3 * one
		checkInnovations(t, fmt.Sprintf("P11.1: Innovation at %d", j), p, h, 5, 36*dOne+5, false)
		for i := range j {
			p := at(i, j, dOne, 4*dOne, one/2)
			h[i] = -2 * one
			checkInnovations(t, fmt.Sprintf("P11.1: Innovation at %d, %d", i, j), p, h, 5, 4*dOne+4*4*dOne+5, false)
			h[i] = 0
		}
	}
}

func TestInnovationKeepsTheVariance(t *testing.T) {
	for _, r := range edges() {
		want := min(max(r, 1), dMost)
		checkInnovations(t, fmt.Sprintf("P11.1: Innovation with %d", r), filled(), bierman.Row{}, r, want, r != want)
		checkInnovations(t, fmt.Sprintf("P11.1: Innovation with %d", r), made([]int64{dOne}), bierman.Pick(0), r, dOne+want, r != want)
		checkUpdates(t, fmt.Sprintf("P11.2: Update with %d", r), []asked{
			{filled(), bierman.Row{}, r, learnt{filled(), bierman.Row{}, want}, r != want},
		})
	}
}

// What may not be in p is clamped ahead of all, also where nothing of it is seen.
func TestConditions(t *testing.T) {
	for i := range n {
		for _, v := range edges() {
			p := filled()
			p.D[i] = v
			checkUnseen(t, fmt.Sprintf("%d at %d of D", v, i), p, v < 1 || v > dMost)
			h := bierman.Row{}
			h[i] = one
			q := made(nil)
			q.D[i] = v
			checkInnovations(t, fmt.Sprintf("P11.1: Innovation of %d at %d of D", v, i), q, h, 1, kept(q).D[i]+1, v < 1 || v > dMost)
		}
	}
	for k := range filled().U {
		for _, v := range edges() {
			p := filled()
			p.U[k] = v
			checkUnseen(t, fmt.Sprintf("%d at %d of U", v, k), p, v < -top || v > top)
		}
	}
}

// checkUnseen is for a row of zeros.
func checkUnseen(t *testing.T, name string, p api.Cov, hit bool) {
	t.Helper()
	checkInnovations(t, "P11.1: Innovation of "+name, p, bierman.Row{}, 77, 77, hit)
	checkUpdates(t, "P11.2: Update of "+name, []asked{{p, bierman.Row{}, 77, learnt{kept(p), bierman.Row{}, 77}, hit}})
}

// A number of h, or of U, at its bound is taken as it is, one beyond it as the bound: here the column is 0 by both, so that nothing else is clamped.
func TestKeepsTheRow(t *testing.T) {
	for _, r := range []struct {
		u, h int64
		hit  bool
	}{
		{top, -top, false},
		{-top, top, false},
		{top, -top - 1, true},
		{-top, top + 1, true},
		{top, least64, true},
		{-top, most64, true},
		{top + 1, -top, true},
		{most64, -top, true},
		{-top - 1, top, true},
		{least64, top, true},
	} {
		p, h := made([]int64{dOne, dMost}, entry{0, 1, r.u}), row(one, r.h)
		want := made([]int64{dOne / 2, dMost}, entry{0, 1, kept(p).U[0]})
		checkInnovations(t, fmt.Sprintf("P11.1: Innovation of %d by %d", r.u, r.h), p, h, dOne, 2*dOne, r.hit)
		checkUpdates(t, fmt.Sprintf("P11.2: Update of %d by %d", r.u, r.h), []asked{
			{p, h, dOne, learnt{want, row(one / 2), 2 * dOne}, r.hit},
		})
	}
	// One less than the bound is not the bound.
	p := made([]int64{dOne, dMost}, entry{0, 1, top})
	want := made([]int64{dOne / 2, dMost}, entry{0, 1, top - 1})
	checkUpdates(t, "P11.2: Update by one less", []asked{
		{p, row(one, 1-top), dOne, learnt{want, row(one/2+1<<41, 1<<11), 2 * dOne}, false},
	})
}

func TestInnovationAtTheBounds(t *testing.T) {
	near := made([]int64{dMost - 1})
	for i, r := range []struct {
		p       api.Cov
		h       bierman.Row
		r, want int64
		hit     bool
	}{
		{near, row(4 * one), 15, top - 1, false},
		{near, row(4 * one), 16, top, false},
		{near, row(-4 * one), 16, top, false},
		{near, row(4 * one), 17, top, true},
		{near, row(4 * one), dMost, top, true},
		// Once it is there, it stays there.
		{made([]int64{dMost - 1, 1}), row(4*one, one), 16, top, true},
		{made([]int64{dMost - 1, 1}), row(4*one, one/2), 16, top, true},
		{made([]int64{dMost - 1, 1}), row(4*one, one/2-1), 16, top, false},
		{made(slices.Repeat([]int64{dMost}, n)), row(slices.Repeat([]int64{top}, n)...), 1, top, true},
		{made(nil), row(top), 1, top, true},
		{made(nil), row(-top), 1, top, true},
		{made(nil), row(top - 1<<31), 1<<32 - 4, top, false},
		{made(nil), row(top - 1<<31), 1<<32 - 3, top, true},
		{made([]int64{1, 1}, entry{0, 1, top}), row(2 * one), 1, top, true},
		{made([]int64{dMost}), row(1 << 40), 1, top, true},
	} {
		checkInnovations(t, fmt.Sprintf("P11.1: Innovation at the bound, line %d", i), r.p, r.h, r.r, r.want, r.hit)
	}
}

func TestUpdate(t *testing.T) {
	c := &fx.Acc{}
	slope := []int64{4 * dOne, 8 * dOne}
	half := []int64{2 * dOne, 4 * dOne}
	three := func(u int64) api.Cov {
		return made([]int64{4 * dOne, 8 * dOne, 16 * dOne}, entry{0, 1, one}, entry{0, 2, one}, entry{1, 2, u})
	}
	learnt3 := func(u int64) api.Cov {
		return made([]int64{2 * dOne, 4 * dOne, 8 * dOne}, entry{0, 1, one / 2}, entry{0, 2, one / 4}, entry{1, 2, u})
	}
	checkUpdates(t, "P11.2: Update", []asked{
		{tri.New(c, dOne), bierman.Pick(0), dOne, learnt{made([]int64{dOne / 2}), row(one / 2), 2 * dOne}, false},
		{tri.New(c, dOne), row(-one), dOne, learnt{made([]int64{dOne / 2}), row(-one / 2), 2 * dOne}, false},
		{tri.New(c, dOne), row(2 * one), 4 * dOne, learnt{made([]int64{dOne / 2}), row(one / 4), 8 * dOne}, false},
		{tri.New(c, dOne), bierman.Pick(0), 3 * dOne, learnt{made([]int64{3 * dOne / 4}), row(one / 4), 4 * dOne}, false},
		// By nothing it learns nothing.
		{filled(), bierman.Row{}, 5, learnt{filled(), bierman.Row{}, 5}, false},
		{api.Cov{}, bierman.Row{}, 5, learnt{made(nil), bierman.Row{}, 5}, true},
		// What is measured of two that had nothing in common gives them something.
		{made(slope), bierman.Pick(0, 1), 4 * dOne, learnt{made(half, entry{0, 1, -one / 2}), row(one/4, one/2), 16 * dOne}, false},
		{made(slope), row(one, -one), 4 * dOne, learnt{made(half, entry{0, 1, one / 2}), row(one/4, -one/2), 16 * dOne}, false},
		{made(slope), row(-one, -one), 4 * dOne, learnt{made(half, entry{0, 1, -one / 2}), row(-one/4, -one/2), 16 * dOne}, false},
		// What is measured of one is learnt of the other by what they have in common.
		{made(slope, entry{0, 1, one}), bierman.Pick(0), 4 * dOne, learnt{made(half, entry{0, 1, one / 2}), row(3*one/4, one/2), 16 * dOne}, false},
		{made(slope, entry{0, 1, -one}), bierman.Pick(0), 4 * dOne, learnt{made(half, entry{0, 1, -one / 2}), row(3*one/4, -one/2), 16 * dOne}, false},
		{made(slope, entry{0, 1, one}), bierman.Pick(1), 8 * dOne,
			learnt{made([]int64{4 * dOne, 4 * dOne}, entry{0, 1, one}), row(one/2, one/2), 16 * dOne}, false},
		{made(slope, entry{0, 1, 3 * one}), row(one, -2*one), 4 * dOne,
			learnt{made(half, entry{0, 1, 3*one - one/2}), row(one/4+3*one/2, one/2), 16 * dOne}, false},
		// Three: each number of b is carried on from column to column.
		{three(0), bierman.Pick(0), 4 * dOne, learnt{learnt3(-one / 2), row(7*one/8, one/4, one/2), 32 * dOne}, false},
		{three(3 * one), bierman.Pick(0), 4 * dOne, learnt{learnt3(5 * one / 2), row(7*one/8, 7*one/4, one/2), 32 * dOne}, false},
		{three(-one), bierman.Pick(0), 4 * dOne, learnt{learnt3(-3 * one / 2), row(7*one/8, -one/4, one/2), 32 * dOne}, false},
	})
}

func TestUpdateRounds(t *testing.T) {
	checkUpdates(t, "P11.2: Update", []asked{
		// D, halves away from 0: a half, three of them, and two thirds.
		{made([]int64{1}), row(one << 15), 1 << 30, learnt{made([]int64{1}), row(1 << 14), 1 << 31}, false},
		{made([]int64{3}), row(one << 15), 3 << 30, learnt{made([]int64{2}), row(1 << 14), 6 << 30}, false},
		{made([]int64{1 << 20}), row(one), 1 << 21, learnt{made([]int64{699051}), row(357913941), 3 << 20}, false},
		{made([]int64{1 << 21}), row(one), 1 << 20, learnt{made([]int64{699051}), row(715827883), 3 << 20}, false},
		// x is a half of the last place, and so is what it takes from U.
		{made([]int64{dOne, 1}), row(one, 1), dOne, learnt{made([]int64{dOne / 2}, entry{0, 1, -1}), row(one / 2), 2 * dOne}, false},
		{made([]int64{dOne, 1}), row(one, -1), dOne, learnt{made([]int64{dOne / 2}, entry{0, 1, 1}), row(one / 2), 2 * dOne}, false},
		{made([]int64{dOne, 1}), row(-one, -1), dOne, learnt{made([]int64{dOne / 2}, entry{0, 1, -1}), row(-one / 2), 2 * dOne}, false},
		{made([]int64{dOne, 1}), row(one, 1), dOne + 1, learnt{made([]int64{dOne / 2}), row(one / 2), 2*dOne + 1}, false},
		{made([]int64{dOne, 1}, entry{0, 1, 7}), row(one/2, 1), 3 * dOne / 4,
			learnt{made([]int64{3 * dOne / 4}, entry{0, 1, 7 - 3}), row(one / 2), dOne}, false},
		// So is what v adds to b, here of state 0, whose gain is 2^30 times it.
		{made([]int64{1, 1 << 29}, entry{0, 1, one / 2}), row(0, one), 1 << 30,
			learnt{made([]int64{1, 357913941}, entry{0, 1, one / 2}), row(178956971, 357913941), 3 << 29}, false},
		{made([]int64{1, 1}, entry{0, 1, one / 2}), row(0, one<<15), 1 << 30,
			learnt{made([]int64{1, 1}, entry{0, 1, one / 2}), row(1<<13, 1<<14), 1 << 31}, false},
		{made([]int64{1, 1}, entry{0, 1, 1 << 14}), row(0, one<<15), 1 << 30,
			learnt{made([]int64{1, 1}, entry{0, 1, 1 << 14}), row(1, 1<<14), 1 << 31}, false},
		{made([]int64{1, 1}, entry{0, 1, -1 << 14}), row(0, one<<15), 1 << 30,
			learnt{made([]int64{1, 1}, entry{0, 1, -1 << 14}), row(-1, 1<<14), 1 << 31}, false},
		{made([]int64{1, 1}, entry{0, 1, 1<<14 - 1}), row(0, one<<15), 1 << 30,
			learnt{made([]int64{1, 1}, entry{0, 1, 1<<14 - 1}), row(0, 1<<14), 1 << 31}, false},
	})
}

// Each number of h, D and U has a place of its own, and so has each gain.
func TestUpdateAtEachPlace(t *testing.T) {
	for i := range n {
		before, after := made(nil), made(nil)
		before.D[i], after.D[i] = 4*dOne, 2*dOne
		checkUpdates(t, fmt.Sprintf("P11.2: Update at %d", i), []asked{
			{before, bierman.Pick(i), 4 * dOne, learnt{after, gains(i, i, one/2, one/2), 8 * dOne}, false},
		})
		for j := i + 1; j < n; j++ {
			both := bierman.Pick(i, j)
			checkUpdates(t, fmt.Sprintf("P11.2: Update at %d, %d", i, j), []asked{
				{at(i, j, 4*dOne, 8*dOne, 0), both, 4 * dOne, learnt{at(i, j, 2*dOne, 4*dOne, -one/2), gains(i, j, one/4, one/2), 16 * dOne}, false},
				{at(i, j, 4*dOne, 8*dOne, one), bierman.Pick(i), 4 * dOne,
					learnt{at(i, j, 2*dOne, 4*dOne, one/2), gains(i, j, 3*one/4, one/2), 16 * dOne}, false},
				{at(i, j, 4*dOne, 8*dOne, one), bierman.Pick(j), 8 * dOne,
					learnt{at(i, j, 4*dOne, 4*dOne, one), gains(i, j, one/2, one/2), 16 * dOne}, false},
			})
		}
	}
}

// gains are those of two states.
func gains(i, j int, ki, kj int64) bierman.Row {
	var k bierman.Row
	k[i], k[j] = ki, kj
	return k
}

// Each thing that may be clamped, at its bound and beyond it, with nothing else clamped.
func TestUpdateAtTheBounds(t *testing.T) {
	checkUpdates(t, "P11.2: Update", []asked{
		// The variance of what is measured.
		{made([]int64{dMost - 1<<12}), row(4 * one), 1 << 16, learnt{made([]int64{1 << 12}), row(one / 4), top}, false},
		{made([]int64{dMost - 1<<12}), row(4 * one), 1<<16 + 16, learnt{made([]int64{1<<12 + 1}), row(one / 4), top}, true},
		// D: less than a half is 0.
		{made(nil), row(one << 15), 1 << 30, learnt{made(nil), row(1 << 14), 1 << 31}, false},
		{made(nil), row(one << 15), 1<<30 - 1, learnt{made(nil), row(1 << 14), 1<<31 - 1}, true},
		{made(nil), row(-one << 15), 1 << 29, learnt{made(nil), row(-21845), 3 << 29}, true},
		// x, also of the first column, from which it takes nothing.
		{made(nil), row(one), 1 << 14, learnt{made(nil), row(65532), 1<<14 + 1}, false},
		{made(nil), row(one), 1<<14 - 1, learnt{made(nil), row(65536), 1 << 14}, true},
		{made(nil), row(-one), 1<<14 - 1, learnt{made(nil), row(-65536), 1 << 14}, true},
		{made(nil), row(1), 1, learnt{made(nil), bierman.Row{}, 1}, false},
		{made(nil), row(one, one), 1, learnt{made(nil, entry{0, 1, -1 << 16}), row(357913941, 357913941), 3}, true},
		// U.
		{made([]int64{dOne, 1}, entry{0, 1, top - 1}), row(one/2, -top/2), 3 * dOne / 4,
			learnt{made([]int64{3 * dOne / 4}, entry{0, 1, top}), row(one / 2), dOne}, false},
		{made([]int64{dOne, 1}, entry{0, 1, top}), row(one/2, -top/2-1), 3 * dOne / 4,
			learnt{made([]int64{3 * dOne / 4}, entry{0, 1, top}), row(one / 2), dOne}, true},
		{made([]int64{dOne, 1}, entry{0, 1, 1 - top}), row(one/2, top/2), 3 * dOne / 4,
			learnt{made([]int64{3 * dOne / 4}, entry{0, 1, -top}), row(one / 2), dOne}, false},
		{made([]int64{dOne, 1}, entry{0, 1, -top}), row(one/2, top/2+1), 3 * dOne / 4,
			learnt{made([]int64{3 * dOne / 4}, entry{0, 1, -top}), row(one / 2), dOne}, true},
		// b, of which the gain is made.
		{made([]int64{dOne, dMost}, entry{0, 1, top}), row(one, 8-top), dOne,
			learnt{made([]int64{dOne / 2, dMost - 1<<13}, entry{0, 1, top - 4}), row(1<<44+one/2-2, 1<<14), 2*dOne + 4}, false},
		{made([]int64{dOne, dMost}, entry{0, 1, top}), row(one, 16-top), dOne,
			learnt{made([]int64{dOne / 2, dMost - 1<<15}, entry{0, 1, top - 8}), row(1<<45-16, 1<<15), 2*dOne + 16}, true},
		// A gain.
		{made([]int64{1, dMost}, entry{0, 1, top - 16}), row(one, 17-top), 1<<26 - 1,
			learnt{made([]int64{1, dMost}, entry{0, 1, top - 16}), row(top, one), 1 << 26}, false},
		{made([]int64{1, dMost}, entry{0, 1, top}), row(one, 1-top), 1<<26 - 1,
			learnt{made([]int64{1, dMost}, entry{0, 1, top}), row(top, one), 1 << 26}, true},
		{made([]int64{1, dMost}, entry{0, 1, top}), row(-one, top-1), 1 << 25,
			learnt{made([]int64{1, dMost}, entry{0, 1, top}), row(-top, 64-1<<31), 1<<25 + 1}, true},
	})
}

func TestGain(t *testing.T) {
	for i, r := range []struct {
		k    bierman.Row
		y    int64
		want bierman.Row
		hit  bool
	}{
		{row(one, -one/2, 3), one / 2, row(one/2, -one/4, 2), false},
		{row(one, -one/2, 3), -one / 2, row(-one/2, one/4, -2), false},
		{row(one, -one/2, 3), 0, bierman.Row{}, false},
		{bierman.Row{}, 5 * one, bierman.Row{}, false},
		{row(1, -1, 3, -3), one/2 - 1, row(0, 0, 1, -1), false},
		{row(rising(one, n)...), one, row(rising(one, n)...), false},
		{row(rising(-5, n)...), 7 * one, row(times(7, rising(-5, n))...), false},
		{row(top, -top), one, row(top, -top), false},
		{row(top, -top), -one, row(-top, top), false},
		{row(one, -one), top, row(top, -top), false},
		{row(one, -one), -top, row(-top, top), false},
		{row(top/2, one), 2 * one, row(top, 2*one), false},
		{row(top/2+1, one), 2 * one, row(top, 2*one), true},
		{row(-top/2-1, one), 2 * one, row(-top, 2*one), true},
		{row(top+1, one), one, row(top, one), true},
		{row(least64, 4), one / 2, row(-top/2, 2), true},
		{row(most64, 4), one / 4, row(top/4, 1), true},
		{row(1, 2), top + 1, row(one, 2*one), true},
		{row(1, 2), most64, row(one, 2*one), true},
		{row(1, 2), least64, row(-one, -2*one), true},
		// What is multiplied by 0 is clamped too.
		{row(0, top+1), 0, bierman.Row{}, true},
		{bierman.Row{}, top + 1, bierman.Row{}, true},
		{bierman.Row{}, least64, bierman.Row{}, true},
		{row(top, -top), top, row(top, -top), true},
	} {
		check(t, fmt.Sprintf("P11.2: Gain, line %d", i), r.want, r.hit, func(c *fx.Acc) bierman.Row { return bierman.Gain(c, r.k, r.y) })
	}
	for i := range n {
		for _, v := range edges() {
			k, want := row(rising(one, n)...), row(rising(one, n)...)
			k[i], want[i] = v, min(max(v, -top), top)
			check(t, fmt.Sprintf("P11.2: Gain of %d at %d", v, i), want, v != want[i], func(c *fx.Acc) bierman.Row { return bierman.Gain(c, k, one) })
		}
	}
}

// times gives numbers multiplied.
func times(by int64, l []int64) []int64 {
	for i := range l {
		l[i] *= by
	}
	return l
}
