package thornton_test

import (
	"fmt"
	"math"
	"slices"
	"testing"

	"astrolabe/api"
	"astrolabe/fx"
	"astrolabe/thornton"
	"astrolabe/tri"
)

const (
	n       = 24
	one     = api.One
	dOne    = api.DOne
	top     = api.Max
	dMost   = 1 << 56
	least64 = math.MinInt64
	most64  = math.MaxInt64
)

// noise is the variances that a step adds.
type noise = [n]int64

// noiseAt is that of one state.
func noiseAt(i int, v int64) noise {
	var q noise
	q[i] = v
	return q
}

// entry is a number of a matrix.
type entry struct {
	i, j int
	v    int64
}

// made is a covariance of the first numbers of D, the others being 1, and of some numbers of U, the others being 0.
func made(d []int64, u ...entry) api.Cov {
	var p api.Cov
	for i := range p.D {
		p.D[i] = 1
	}
	copy(p.D[:], d)
	for _, e := range u {
		p.U[e.j*(e.j-1)/2+e.i] = e.v
	}
	return p
}

// moved is the matrix that changes nothing but by some numbers.
func moved(l ...entry) thornton.Matrix {
	var f thornton.Matrix
	for i := range f {
		f[i][i] = one
	}
	for _, e := range l {
		f[e.i][e.j] = e.v
	}
	return f
}

// rising gives as many numbers, each one more than the one ahead of it.
func rising(from int64, count int) []int64 {
	var l []int64
	for i := range count {
		l = append(l, from+int64(i))
	}
	return l
}

// filled is a good covariance, no two numbers of which are alike.
func filled() api.Cov {
	p := made(rising(dOne, n))
	copy(p.U[:], rising(1000, len(p.U)))
	return p
}

// row is what a step makes of a covariance, and whether it sets the flag.
type row struct {
	p    api.Cov
	f    thornton.Matrix
	q    noise
	want api.Cov
	hit  bool
}

// check holds a call against what it must answer: with the flag not set before it, and with the flag set.
func check(t *testing.T, name string, want api.Cov, hit bool, call func(c *fx.Acc) api.Cov) {
	t.Helper()
	for _, before := range []bool{false, true} {
		c := &fx.Acc{Hit: before}
		for range 2 {
			got := call(c)
			if got != want || c.Hit != (before || hit) {
				t.Fatalf("%s, flag %v: %v, flag %v, not %v, flag %v", name, before, got, c.Hit, want, before || hit)
			}
			if !tri.Good(got) {
				t.Fatalf("P10.2: %s: %v is not good", name, got)
			}
		}
	}
}

func checkSteps(t *testing.T, name string, l []row) {
	t.Helper()
	for k, r := range l {
		check(t, fmt.Sprintf("%s, line %d", name, k), r.want, r.hit, func(c *fx.Acc) api.Cov { return thornton.Step(c, r.p, r.f, r.q) })
	}
}

func TestOne(t *testing.T) {
	f := thornton.One()
	for i := range f {
		for j, v := range f[i] {
			if i == j && v != one || i != j && v != 0 {
				t.Errorf("P10.1: One has %d at %d, %d", v, i, j)
			}
		}
	}
	f[3][4] = 7
	if thornton.One() != moved() {
		t.Errorf("P10.1: One is changed by who was handed it")
	}
}

func TestStep(t *testing.T) {
	slope := []int64{4 * dOne, dOne}
	checkSteps(t, "P10.1: Step", []row{
		{made(slope), moved(), noise{}, made(slope), false},
		// A state that moves another shares half of its error with it.
		{made(slope), moved(entry{1, 0, one / 2}), noise{}, made([]int64{2 * dOne, 2 * dOne}, entry{0, 1, one}), false},
		{made(slope), moved(entry{1, 0, -one / 2}), noise{}, made([]int64{2 * dOne, 2 * dOne}, entry{0, 1, -one}), false},
		{made(slope), moved(entry{0, 1, one / 2}), noise{}, made(slope, entry{0, 1, one / 2}), false},
		{made(slope), moved(entry{0, 1, -5 * one}), noise{}, made(slope, entry{0, 1, -5 * one}), false},
		{made(slope), moved(entry{1, 1, 3 * one}), noise{}, made([]int64{4 * dOne, 9 * dOne}), false},
		{made(slope), moved(entry{0, 0, -one / 2}), noise{}, made([]int64{dOne, dOne}), false},
		// What is in U moves with its states.
		{made(slope, entry{0, 1, one / 4}), moved(entry{0, 1, one / 2}), noise{}, made(slope, entry{0, 1, one/2 + one/4}), false},
		{made(slope, entry{0, 1, one}), moved(entry{0, 0, 3 * one}), noise{}, made([]int64{36 * dOne, dOne}, entry{0, 1, 3 * one}), false},
		{made(slope, entry{0, 1, one}), moved(entry{1, 1, 2 * one}), noise{}, made([]int64{4 * dOne, 4 * dOne}, entry{0, 1, one / 2}), false},
		{made([]int64{3 * dOne, dOne}, entry{0, 1, one}), moved(entry{0, 0, 0}, entry{0, 1, one}, entry{1, 0, one}, entry{1, 1, 0}), noise{},
			made([]int64{3 * dOne / 4, 4 * dOne}, entry{0, 1, one / 4}), false},
		// The noise of one state takes from what it shares with another.
		{made([]int64{1, 1}, entry{0, 1, 3 * one}), moved(), noise{1: 2}, made([]int64{7, 3}, entry{0, 1, one}), false},
		{made([]int64{1, 1}, entry{0, 1, 3 * one}), moved(), noise{0: 2}, made([]int64{3, 1}, entry{0, 1, 3 * one}), false},
		{made([]int64{dOne, dOne}, entry{0, 1, one}), moved(), noise{1: 3 * dOne}, made([]int64{dOne + 3*dOne/4, 4 * dOne}, entry{0, 1, one / 4}), false},
	})
}

func TestStepRounds(t *testing.T) {
	ones := []int64{1, 1}
	checkSteps(t, "P10.1: Step", []row{
		// Each number is rounded where it arises, halves away from 0: a half becomes 1, and what that is too much stays in the row.
		{made(ones, entry{0, 1, one / 2}), moved(), noise{}, made([]int64{2, 1}, entry{0, 1, one}), false},
		{made(ones, entry{0, 1, -one / 2}), moved(), noise{}, made([]int64{2, 1}, entry{0, 1, -one}), false},
		{made(ones, entry{0, 1, one/2 - 1}), moved(), noise{}, made([]int64{1, 1}), false},
		{made(ones), moved(entry{0, 0, one / 2}), noise{}, made([]int64{1, 1}), false},
		// Of f and U, a half of the last place.
		{made([]int64{dOne, dOne}, entry{0, 1, one + 1}), moved(entry{0, 0, one / 2}), noise{},
			made([]int64{dOne / 4, dOne}, entry{0, 1, one/2 + 1}), false},
		{made([]int64{dOne, dOne}, entry{0, 1, -one - 1}), moved(entry{0, 0, one / 2}), noise{},
			made([]int64{dOne / 4, dOne}, entry{0, 1, -one/2 - 1}), false},
		// Of f and U, two halves are summed ahead of rounding.
		{made([]int64{dOne, dOne, dOne}, entry{0, 2, 1}, entry{1, 2, 1}), moved(entry{0, 0, one / 2}, entry{0, 1, one / 2}), noise{},
			made([]int64{dOne / 4, dOne, dOne}, entry{0, 1, one / 2}, entry{0, 2, 1}, entry{1, 2, 1}), false},
		// The sum for D is rounded once: a half and a half are 1, but each number is multiplied by its variance ahead of it.
		{made(ones), moved(entry{0, 0, 0}, entry{0, 2, one / 2}, entry{0, 3, one / 2}), noise{},
			made([]int64{1, 1}, entry{0, 2, one}, entry{0, 3, one}), false},
		// A third, as a quotient.
		{made(ones, entry{0, 1, one}), moved(), noise{1: 2}, made([]int64{2, 3}, entry{0, 1, 357913941}), false},
	})
}

// Each number of f has a place of its own.
func TestStepAtEachPlace(t *testing.T) {
	for i := range n {
		for j := range n {
			p, want := made(nil), made(nil)
			f := moved(entry{i, j, one / 2})
			p.D[j] = 4 * dOne
			switch {
			case i == j:
				want.D[j] = dOne
			case i < j:
				want.D[j] = 4 * dOne
				want = tri.Set(want, i, j, one/2)
			default:
				p.D[i] = dOne
				want.D[i], want.D[j] = 2*dOne, 2*dOne
				want = tri.Set(want, j, i, one)
			}
			checkSteps(t, fmt.Sprintf("P10.1: Step by a number at %d, %d", i, j), []row{{p, f, noise{}, want, false}})
		}
	}
}

// Each number of q is added to the variance of its state.
func TestStepAddsNoise(t *testing.T) {
	for i := range n {
		for _, v := range []int64{0, 1, dOne, dMost - dOne - n, dMost - dOne - int64(i)} {
			p := made(rising(dOne, n))
			want := p
			want.D[i] += v
			checkSteps(t, fmt.Sprintf("P10.1: Step by a noise at %d", i), []row{{p, moved(), noiseAt(i, v), want, false}})
		}
	}
	p, q := made(rising(1, n)), noise(rising(100, n))
	want := p
	for i := range want.D {
		want.D[i] = 101 + 2*int64(i)
	}
	checkSteps(t, "P10.1: Step by noises", []row{{p, moved(), q, want, false}})
}

func TestStepAtTheBounds(t *testing.T) {
	grown, most := made([]int64{dOne, dMost - 7}), made([]int64{dOne, dMost})
	full, least := made(slices.Repeat([]int64{dMost}, n)), made(nil)
	noisy := noise(rising(1, n))
	var none thornton.Matrix
	checkSteps(t, "P10.1: Step", []row{
		{grown, moved(), noise{1: 7}, most, false},
		{grown, moved(), noise{1: 8}, most, true},
		{grown, moved(), noise{1: dMost}, most, true},
		{full, moved(), noise{}, full, false},
		{full, moved(), noise{23: 1}, full, true},
		{full, moved(), noise(slices.Repeat([]int64{dMost}, n)), full, true},
		// A variance of 0 is below the bound.
		{filled(), none, noise{}, least, true},
		{least, moved(entry{7, 7, 0}), noise{}, least, true},
		{least, moved(entry{7, 7, 0}), noise{7: 1}, least, false},
		{least, moved(entry{23, 23, one/2 - 1}), noise{}, least, true},
		// Noise alone is what is left of all.
		{filled(), none, noisy, made(noisy[:]), false},
		{filled(), none, noise(slices.Repeat([]int64{dMost}, n)), full, false},
		// A number of U is beyond Max, and so is D.
		{made([]int64{dMost}), moved(entry{0, 0, 1 << 35}, entry{1, 0, 1}, entry{1, 1, 0}), noise{1: 1},
			made([]int64{dMost, 1}, entry{0, 1, top}), true},
		{made([]int64{dMost}), moved(entry{0, 0, -1 << 35}, entry{1, 0, 1}, entry{1, 1, 0}), noise{1: 1},
			made([]int64{dMost, 1}, entry{0, 1, -top}), true},
	})
}

// What may not be in p is clamped ahead of all, also where nothing is left of it.
func TestStepConditions(t *testing.T) {
	var none thornton.Matrix
	noisy := noise(rising(1, n))
	for i := range n {
		for _, v := range []int64{0, -1, dMost + 1, top, top + 1, -top, most64, least64} {
			p := filled()
			p.D[i] = v
			q := made(nil)
			q.D[i] = v
			want := made(nil)
			want.D[i] = min(max(v, 1), dMost)
			checkSteps(t, fmt.Sprintf("P10.1: Step of %d at %d of D", v, i), []row{
				{p, none, noisy, made(noisy[:]), true},
				{q, moved(), noise{}, want, true},
			})
		}
	}
	for k := range filled().U {
		for _, v := range []int64{-top, top + 1, least64} {
			p := filled()
			p.U[k] = v
			checkSteps(t, fmt.Sprintf("P10.1: Step of %d at %d of U", v, k), []row{
				{p, none, noisy, made(noisy[:]), v > top || v < -top},
			})
		}
	}
	// A number of U at its bound is taken as it is: f makes it small.
	for _, v := range []int64{top, -top, top + 1, -top - 1, most64, least64} {
		p, want := made(nil, entry{0, 1, v}), made([]int64{5}, entry{0, 1, one})
		if v < 0 {
			want = made([]int64{5}, entry{0, 1, -one})
		}
		checkSteps(t, fmt.Sprintf("P10.1: Step of %d in U", v), []row{{p, moved(entry{0, 0, 1}), noise{0: 5}, want, v > top || v < -top}})
	}
}

// A number of f at its bound is taken as it is, one beyond it as the bound: here all of it is in U, so that nothing else is clamped.
func TestStepKeepsTheMatrix(t *testing.T) {
	for _, r := range []struct {
		v, u int64
		hit  bool
	}{
		{top, 4 * one, false},
		{-top, -4 * one, false},
		{top / 2, 2 * one, false},
		{top + 1, 4 * one, true},
		{-top - 1, -4 * one, true},
		{most64, 4 * one, true},
		{least64, -4 * one, true},
	} {
		f := moved(entry{0, 0, r.v}, entry{1, 0, 1 << 58}, entry{1, 1, 0})
		checkSteps(t, fmt.Sprintf("P10.1: Step by %d", r.v), []row{{made(nil), f, noise{0: 5}, made([]int64{5, dMost}, entry{0, 1, r.u}), r.hit}})
	}
}

func TestStepKeepsTheNoise(t *testing.T) {
	var none thornton.Matrix
	base := noise(rising(1, n))
	for i := range n {
		for _, v := range []int64{0, 1, dMost - 1, dMost, -1, -dOne, least64, dMost + 1, top, top + 1, most64} {
			q, want := base, made(base[:])
			q[i] = v
			want.D[i] = min(max(v, 1), dMost)
			checkSteps(t, fmt.Sprintf("P10.1: Step by %d of the noise at %d", v, i), []row{{filled(), none, q, want, v <= 0 || v > dMost}})
		}
		// Below 0 it is 0, which takes nothing away.
		for _, v := range []int64{-1, -dOne, -top, least64} {
			p := made(rising(dOne, n))
			checkSteps(t, fmt.Sprintf("P10.1: Step by %d of the noise at %d", v, i), []row{{p, moved(), noiseAt(i, v), p, true}})
		}
	}
}

func TestWith(t *testing.T) {
	p := made(rising(dOne, n))
	more := rising(7, 30)
	for count := range len(more) + 1 {
		want := p
		for i := range min(count, n) {
			want.D[i] += more[i]
		}
		check(t, fmt.Sprintf("P10.1: With %d", count), want, false, func(c *fx.Acc) api.Cov { return thornton.With(c, p, more[:count]...) })
	}
	check(t, "P10.1: With of the example", made([]int64{dOne + 1, 2}), false, func(c *fx.Acc) api.Cov { return thornton.With(c, tri.New(c, dOne), 1, 1) })
	// Those beyond the last state are not looked at.
	spoilt := slices.Concat(make([]int64, n), []int64{least64, most64, -1, dMost + 1})
	check(t, "P10.1: With more than there are states", p, false, func(c *fx.Acc) api.Cov { return thornton.With(c, p, spoilt...) })
	for i := range n {
		for _, v := range []int64{-1, least64} {
			l := make([]int64, n)
			l[i] = v
			check(t, fmt.Sprintf("P10.1: With %d at %d", v, i), p, true, func(c *fx.Acc) api.Cov { return thornton.With(c, p, l...) })
		}
		for _, v := range []int64{dMost, most64} {
			l, want := make([]int64, n), p
			l[i], want.D[i] = v, dMost
			check(t, fmt.Sprintf("P10.1: With %d at %d", v, i), want, true, func(c *fx.Acc) api.Cov { return thornton.With(c, p, l...) })
		}
	}
	// It is a step: what may not be is clamped, and what is shared is shared anew.
	check(t, "P10.1: With of zeros", made(nil), true, func(c *fx.Acc) api.Cov { return thornton.With(c, api.Cov{}) })
	shared := made([]int64{1, 1}, entry{0, 1, 3 * one})
	check(t, "P10.1: With of what is shared", made([]int64{7, 3}, entry{0, 1, one}), false, func(c *fx.Acc) api.Cov { return thornton.With(c, shared, 0, 2) })
}

func TestWithLeavesItsListAlone(t *testing.T) {
	l := append(rising(-3, 30), 5, 6)
	want := slices.Clone(l)
	thornton.With(&fx.Acc{}, filled(), l[:3]...)
	thornton.With(&fx.Acc{}, filled(), l[:30]...)
	if !slices.Equal(l, want) {
		t.Errorf("R4: With made %v of its list", l)
	}
}

func TestNothingChanges(t *testing.T) {
	l := []api.Cov{made(nil), made(rising(1, n)), made(slices.Repeat([]int64{dMost}, n))}
	for i := range n {
		for _, d := range []int64{1, 2, 3, one - 1, one/2 + 1, dOne, dOne + 1, dMost - 1, dMost} {
			p := made(rising(5, n))
			p.D[i] = d
			l = append(l, p)
		}
	}
	for k, p := range l {
		checkSteps(t, fmt.Sprintf("P10.2: Step by nothing, %d", k), []row{{p, moved(), noise{}, p, false}, {p, thornton.One(), noise{}, p, false}})
		check(t, fmt.Sprintf("P10.2: With nothing, %d", k), p, false, func(c *fx.Acc) api.Cov { return thornton.With(c, p) })
	}
}
