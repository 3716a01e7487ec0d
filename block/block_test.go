package block_test

import (
	"fmt"
	"math"
	"slices"
	"testing"

	"astrolabe/api"
	"astrolabe/block"
	"astrolabe/fx"
	"astrolabe/tri"
)

const (
	n       = 24
	one     = api.One
	dOne    = api.DOne
	top     = api.Max
	dMost   = 1 << 56
	least64 = math.MinInt64
	most64  = math.MaxInt64
)

// entry is a number of U.
type entry struct {
	i, j int
	v    int64
}

// made is a covariance of the first numbers of D, the others being 1, and of some numbers of U, the others being 0.
func made(d []int64, u ...entry) api.Cov {
	var p api.Cov
	for i := range p.D {
		p.D[i] = 1
	}
	copy(p.D[:], d)
	for _, e := range u {
		p.U[e.j*(e.j-1)/2+e.i] = e.v
	}
	return p
}

// whole is made of variances in ones.
func whole(d []int64, u ...entry) api.Cov {
	p := made(nil, u...)
	for i, v := range d {
		p.D[i] = v * dOne
	}
	return p
}

// variance is a covariance with another number of D.
func variance(p api.Cov, i int, v int64) api.Cov {
	p.D[i] = v
	return p
}

// three is a covariance of three states that have to do with each other: their variances are 8, 4 and 2.
func three() api.Cov {
	return whole([]int64{4, 2, 2}, entry{0, 1, one}, entry{0, 2, one}, entry{1, 2, one})
}

// rising gives as many numbers, each one more than the one ahead of it.
func rising(from int64, count int) []int64 {
	var l []int64
	for i := range count {
		l = append(l, from+int64(i))
	}
	return l
}

// filled is a good covariance, no two numbers of which are alike.
func filled() api.Cov {
	p := made(rising(dOne, n))
	copy(p.U[:], rising(1000, len(p.U)))
	return p
}

// spoilt gives numbers that are no variances.
func spoilt(count int) []int64 {
	return slices.Repeat([]int64{least64, most64, -1, 0, dMost + 1, top + 1}, count)[:count]
}

// row is a call, what it answers, and whether it sets the flag.
type row struct {
	call func(c *fx.Acc) api.Cov
	want api.Cov
	hit  bool
}

// reset, forget and grow are calls for such rows.
func reset(p api.Cov, from int, vars ...int64) func(c *fx.Acc) api.Cov {
	return func(c *fx.Acc) api.Cov { return block.Reset(c, p, from, vars...) }
}

func forget(p api.Cov, l ...int) func(c *fx.Acc) api.Cov {
	return func(c *fx.Acc) api.Cov { return block.Forget(c, p, l...) }
}

func grow(p api.Cov, from int, more ...int64) func(c *fx.Acc) api.Cov {
	return func(c *fx.Acc) api.Cov { return block.Grow(c, p, from, more...) }
}

// check holds calls against what they must answer: with the flag not set before them, and with the flag set.
func check(t *testing.T, name string, l ...row) {
	t.Helper()
	for k, r := range l {
		for _, before := range []bool{false, true} {
			c := &fx.Acc{Hit: before}
			for range 2 {
				got := r.call(c)
				if got != r.want || c.Hit != (before || r.hit) {
					t.Fatalf("%s, line %d, flag %v: %v, flag %v, not %v, flag %v", name, k, before, got, c.Hit, r.want, before || r.hit)
				}
			}
		}
	}
}

// checkAlone holds a state against what it must be after a reset.
func checkAlone(t *testing.T, name string, p api.Cov, i int, v int64) {
	t.Helper()
	if p.D[i] != v {
		t.Fatalf("P12.2: %s: the variance of state %d is %d, not %d", name, i, p.D[i], v)
	}
	for k := range n {
		if k != i && (tri.U(p, i, k) != 0 || tri.U(p, k, i) != 0) {
			t.Fatalf("P12.2: %s: state %d has to do with state %d", name, i, k)
		}
	}
}

func TestReset(t *testing.T) {
	p := three()
	check(t, "P12.1: Reset",
		row{reset(made([]int64{dOne, dOne}), 0, 5), made([]int64{5, dOne}), false},
		row{reset(p, 0, 7), made([]int64{7, 2 * dOne, 2 * dOne}, entry{1, 2, one}), false},
		row{reset(p, 1, 7), made([]int64{6 * dOne, 7, 2 * dOne}, entry{0, 2, one}), false},
		row{reset(p, 2, 7), made([]int64{4 * dOne, 4 * dOne, 7}, entry{0, 1, one}), false},
		row{reset(p, 0, 7, 9), made([]int64{7, 9, 2 * dOne}), false},
		row{reset(p, 1, 7, 9), made([]int64{8 * dOne, 7, 9}), false},
		row{reset(p, 0, 7, 9, 11), made([]int64{7, 9, 11}), false},
		row{reset(p, 2, 7, 9, 11), made([]int64{4 * dOne, 4 * dOne, 7, 9, 11}, entry{0, 1, one}), false},
		// What a state was told to be does not hang on what it was.
		row{reset(p, 0, 4*dOne), made([]int64{4 * dOne, 2 * dOne, 2 * dOne}, entry{1, 2, one}), false},
		row{reset(p, 0, dMost), made([]int64{dMost, 2 * dOne, 2 * dOne}, entry{1, 2, one}), false},
		row{reset(p, 0), p, false},
		row{reset(p, 23, 5), variance(p, 23, 5), false},
	)
}

// Numbers that are not states are ignored together with their variances, whatever these are.
func TestResetBesideTheStates(t *testing.T) {
	p := three()
	first := made([]int64{7, 2 * dOne, 2 * dOne}, entry{1, 2, one})
	last := variance(p, 23, 7)
	many := spoilt(300)
	check(t, "P12.1: Reset",
		row{reset(p, -1, slices.Concat(many[:1], []int64{7})...), first, false},
		row{reset(p, -300, slices.Concat(many, []int64{7})...), first, false},
		row{reset(p, -2, 5, 6, 7, 9), made([]int64{7, 9, 2 * dOne}), false},
		row{reset(p, 23, slices.Concat([]int64{7}, many)...), last, false},
		row{reset(p, 22, slices.Concat([]int64{1, 7}, many)...), last, false},
		row{reset(p, -1, slices.Concat([]int64{5}, rising(31, n), many)...), made(rising(31, n)), false},
	)
	for _, from := range []int{-301, -300, 24, 25, 1 << 32, -1 << 32, least64, least64 + 1, least64 + 24, most64, most64 - 1, most64 - 23, most64 - 24, most64 - 299} {
		check(t, fmt.Sprintf("P12.1: Reset from %d", from),
			row{reset(p, from, many...), p, false},
			row{reset(p, from), p, false},
		)
	}
}

// The variances of the states are kept within their bounds.
func TestResetAtTheBounds(t *testing.T) {
	for i := range n {
		for _, v := range []int64{1, 2, dOne, dMost - 1, dMost, 0, -1, -dOne, -top, least64, dMost + 1, top, top + 1, most64} {
			kept := min(max(v, 1), dMost)
			p := made(rising(dOne, n))
			check(t, fmt.Sprintf("P12.1: Reset of %d to %d", i, v),
				row{reset(p, i, v), variance(p, i, kept), kept != v},
			)
			c := &fx.Acc{}
			checkAlone(t, fmt.Sprintf("Reset of %d to %d", i, v), block.Reset(c, filled(), i, v), i, kept)
			if c.Hit != (kept != v) {
				t.Errorf("P12.1: Reset of %d to %d: flag %v", i, v, c.Hit)
			}
		}
	}
	check(t, "P12.1: Reset of all",
		row{reset(filled(), 0, slices.Repeat([]int64{dMost}, n)...), made(slices.Repeat([]int64{dMost}, n)), false},
		row{reset(filled(), 0, slices.Repeat([]int64{most64}, n)...), made(slices.Repeat([]int64{dMost}, n)), true},
		row{reset(filled(), 0, make([]int64, n)...), made(nil), true},
	)
}

func TestForget(t *testing.T) {
	p := three()
	alone := whole([]int64{8, 4, 2})
	check(t, "P12.1: Forget",
		row{forget(p), p, false},
		row{forget(p, 0), whole([]int64{8, 2, 2}, entry{1, 2, one}), false},
		row{forget(p, 1), whole([]int64{6, 4, 2}, entry{0, 2, one}), false},
		row{forget(p, 2), whole([]int64{4, 4, 2}, entry{0, 1, one}), false},
		row{forget(p, 3), p, false},
		row{forget(p, 23), p, false},
		row{forget(p, 0, 1), alone, false},
		row{forget(p, 1, 2), alone, false},
		row{forget(p, 2, 0), alone, false},
		row{forget(p, 2, 1, 0), alone, false},
		row{forget(alone, 2, 1, 0), alone, false},
		// A state that is given twice counts once.
		row{forget(p, 0, 0), whole([]int64{8, 2, 2}, entry{1, 2, one}), false},
		row{forget(p, 2, 2, 2), whole([]int64{4, 4, 2}, entry{0, 1, one}), false},
		row{forget(p, 1, 0, 1, 0, 0, 1), alone, false},
		// Numbers that are not states are ignored.
		row{forget(p, -1, 24, least64, most64), p, false},
		row{forget(p, -1, 1, 24), whole([]int64{6, 4, 2}, entry{0, 2, one}), false},
		row{forget(p, 25, 1<<32, -1<<32, 2, least64, least64+2, most64-2), whole([]int64{4, 4, 2}, entry{0, 1, one}), false},
	)
}

// Each state is forgotten at its own place, by the variance that it has.
func TestForgetAtEachPlace(t *testing.T) {
	p := filled()
	for i := range n {
		c := &fx.Acc{}
		name := fmt.Sprintf("Forget %d", i)
		checkAlone(t, name, block.Forget(c, p, i), i, tri.At(c, p, i, i))
		for j := range i {
			q := made(nil, entry{j, i, 3 * one})
			q.D[i], q.D[j] = 5, 7
			apart := made(nil)
			apart.D[i], apart.D[j] = 5, 52
			check(t, fmt.Sprintf("P12.1: Forget one of %d and %d", j, i),
				row{forget(q, i), apart, false},
				row{forget(q, j), apart, false},
			)
		}
		if c.Hit {
			t.Errorf("P12.1: %s sets the flag", name)
		}
	}
	all := make([]int, n)
	for i := range all {
		all[i] = n - 1 - i
	}
	diagonal := tri.Diag(&fx.Acc{}, p)
	check(t, "P12.1: Forget all", row{forget(p, all...), made(diagonal[:]), false})
}

// The variance is kept within its bounds: one that is too great is clamped, and so is one that is too small, which no good covariance has.
func TestForgetAtTheBounds(t *testing.T) {
	full := made([]int64{dMost, dMost, dMost}, entry{0, 1, one})
	far := made([]int64{1, dMost}, entry{0, 1, top})
	check(t, "P12.1: Forget",
		row{forget(full, 1, 2), made([]int64{dMost, dMost, dMost}), true},
		row{forget(full, 2), full, false},
		row{forget(full, 0), made([]int64{dMost, dMost, dMost}), true},
		row{forget(made([]int64{dMost - 4, 1}, entry{0, 1, 2 * one}), 0), made([]int64{dMost}), false},
		row{forget(made([]int64{dMost - 3, 1}, entry{0, 1, 2 * one}), 0), made([]int64{dMost}), true},
		row{forget(far, 0), made([]int64{dMost, dMost}), true},
		row{forget(made(slices.Repeat([]int64{dMost}, n)), 0, 23), made(slices.Repeat([]int64{dMost}, n)), false},
		row{forget(made([]int64{0}), 0), made(nil), true},
		row{forget(made([]int64{-5}), 0), made(nil), true},
		row{forget(made([]int64{least64, 3}), 0), made([]int64{1, 3}), true},
		row{forget(made([]int64{most64, 3}), 0), made([]int64{dMost, 3}), true},
		row{forget(made([]int64{dMost + 1, 3}), 0), made([]int64{dMost, 3}), true},
	)
}

// Nobody asks for the variance of a state that is not given: that of state 0 is beyond Max here.
func TestForgetOfOthers(t *testing.T) {
	p := made([]int64{1, one}, entry{0, 1, top})
	check(t, "P12.1: Forget",
		row{forget(p), p, false},
		row{forget(p, 2), p, false},
		row{forget(p, 24, -1), p, false},
		row{forget(p, 0), made([]int64{dMost, one}), true},
		row{forget(p, 1), made([]int64{dMost, one}), true},
	)
}

// The variance is that of the covariance as it was given: only the step keeps that one within its bounds.
func TestForgetAsItIs(t *testing.T) {
	check(t, "P12.1: Forget",
		row{forget(made([]int64{5, 0}, entry{0, 1, one}), 0), made([]int64{5, 1}), true},
		row{forget(made([]int64{5, -3}, entry{0, 1, one}), 0), made([]int64{2, 1}), true},
		row{forget(made([]int64{5, 2 * dMost}, entry{0, 1, one / 2}), 0), made([]int64{5 + dMost/2, dMost}), true},
		row{forget(made([]int64{5, 2 * dMost}, entry{0, 1, one / 2}), 1), made([]int64{5 + dMost/4, dMost}), true},
	)
}

func TestGrow(t *testing.T) {
	p := three()
	shared := made([]int64{1, 1}, entry{0, 1, 3 * one})
	check(t, "P12.1: Grow",
		row{grow(made([]int64{dOne, dOne, dOne}), 1, 5, 7), made([]int64{dOne, dOne + 5, dOne + 7}), false},
		row{grow(p, 0), p, false},
		row{grow(p, 5, 0, 0), p, false},
		row{grow(p, 0, 5), variance(p, 0, 4*dOne+5), false},
		row{grow(p, 3, 5, 6), variance(variance(p, 3, 6), 4, 7), false},
		// What states have to do with each other stays, so that it is a lesser part of what has grown.
		row{grow(shared, 0, 2), variance(shared, 0, 3), false},
		row{grow(shared, 1, 2), made([]int64{7, 3}, entry{0, 1, one}), false},
		row{grow(shared, 0, 2, 2), made([]int64{9, 3}, entry{0, 1, one}), false},
	)
	for i := range n {
		for _, v := range []int64{0, 1, dOne, dMost - 2*dOne} {
			q := made(rising(dOne, n))
			check(t, fmt.Sprintf("P12.1: Grow by %d from %d", v, i),
				row{grow(q, i, v), variance(q, i, dOne+int64(i)+v), false},
			)
		}
	}
}

func TestGrowBesideTheStates(t *testing.T) {
	p := made(rising(dOne, n))
	many := spoilt(300)
	all := made(rising(dOne, n))
	for i := range all.D {
		all.D[i] += 31 + int64(i)
	}
	check(t, "P12.1: Grow",
		row{grow(p, -1, slices.Concat(many[:1], []int64{7})...), variance(p, 0, dOne+7), false},
		row{grow(p, -300, slices.Concat(many, []int64{7})...), variance(p, 0, dOne+7), false},
		row{grow(p, -2, 5, 6, 7), variance(p, 0, dOne+7), false},
		row{grow(p, 23, slices.Concat([]int64{7}, many)...), variance(p, 23, dOne+30), false},
		row{grow(p, -1, slices.Concat([]int64{5}, rising(31, n), many)...), all, false},
	)
	for _, from := range []int{-301, -300, 24, 25, 1 << 32, -1 << 32, least64, least64 + 1, least64 + 24, most64, most64 - 1, most64 - 23, most64 - 24, most64 - 299} {
		check(t, fmt.Sprintf("P12.1: Grow from %d", from),
			row{grow(p, from, many...), p, false},
			row{grow(p, from), p, false},
		)
	}
}

// What is added is kept from 0 to DMax by the step, and so is the sum.
func TestGrowAtTheBounds(t *testing.T) {
	for i := range n {
		p := made(rising(dOne, n))
		room := dMost - p.D[i]
		check(t, fmt.Sprintf("P12.1: Grow from %d", i),
			row{grow(p, i, room), variance(p, i, dMost), false},
			row{grow(p, i, room+1), variance(p, i, dMost), true},
			row{grow(p, i, dMost), variance(p, i, dMost), true},
			row{grow(p, i, dMost+1), variance(p, i, dMost), true},
			row{grow(p, i, most64), variance(p, i, dMost), true},
			row{grow(p, i, -1), p, true},
			row{grow(p, i, -dOne), p, true},
			row{grow(p, i, least64), p, true},
		)
	}
}

// What may not be in the covariance is kept within its bounds ahead of all.
func TestWrongCovariances(t *testing.T) {
	for i := range n {
		for _, v := range []int64{0, least64, dMost + 1, most64} {
			p := made(rising(dOne, n))
			p.D[i] = v
			want := variance(p, i, min(max(v, 1), dMost))
			check(t, fmt.Sprintf("P12.1: %d at %d of D", v, i),
				row{reset(p, n, 5), want, true},
				row{reset(p, i, 5), variance(p, i, 5), true},
				row{forget(p), want, true},
				row{forget(p, i), want, true},
				row{forget(p, (i+1)%n), want, true},
				row{grow(p, 0), want, true},
			)
		}
	}
	for k := range filled().U {
		for _, v := range []int64{-top, top + 1, least64} {
			p := made(nil)
			p.U[k] = v
			all := rising(5, n)
			check(t, fmt.Sprintf("P12.1: %d at %d of U", v, k), row{reset(p, 0, all...), made(all), v > top || v < -top})
		}
	}
}

func TestListsAreLeftAlone(t *testing.T) {
	vars, states := append(spoilt(40), 5, 6), append(make([]int, 0, 40), 3, 17, 3, -1, 24, 9, 8)
	wantVars, wantStates := slices.Clone(vars), slices.Clone(states)
	for _, count := range []int{0, 3, 40} {
		block.Reset(&fx.Acc{}, filled(), -2, vars[:count]...)
		block.Grow(&fx.Acc{}, filled(), -2, vars[:count]...)
	}
	for _, count := range []int{0, 3, 7} {
		block.Forget(&fx.Acc{}, filled(), states[:count]...)
	}
	if !slices.Equal(vars, wantVars) {
		t.Errorf("R4: Reset and Grow made %v of their list", vars)
	}
	if !slices.Equal(states, wantStates) || slices.Max(states[7:40]) != 0 {
		t.Errorf("R4: Forget made %v of its list", states[:40])
	}
}
