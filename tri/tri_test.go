package tri_test

import (
	"math"
	"slices"
	"testing"

	"astrolabe/api"
	"astrolabe/fx"
	"astrolabe/tri"
)

const (
	n       = 24
	one     = api.One
	dOne    = api.DOne
	top     = api.Max
	dMost   = 1 << 56
	least64 = math.MinInt64
	most64  = math.MaxInt64
)

// places gives where each number above the diagonal is kept: column by column, each from the top; all others are -1.
func places() [n][n]int {
	var at [n][n]int
	next := 0
	for j := range n {
		for i := range n {
			at[i][j] = -1
			if i < j {
				at[i][j] = next
				next++
			}
		}
	}
	return at
}

// outside gives numbers of which there is no row or column.
func outside() []int {
	return []int{-1, -2, -24, 24, 25, 48, 276, 1 << 31, -1 << 31, 1 << 32, 1<<32 + 1, math.MaxInt, math.MinInt, math.MinInt + 1}
}

// entry is a number of U.
type entry struct {
	i, j int
	v    int64
}

// made is a covariance of the first numbers of D, the others being 1, and of some numbers of U, the others being 0.
func made(d []int64, u ...entry) api.Cov {
	var p api.Cov
	for i := range p.D {
		p.D[i] = 1
	}
	copy(p.D[:], d)
	at := places()
	for _, e := range u {
		p.U[at[e.i][e.j]] = e.v
	}
	return p
}

// filled is a good covariance, no two numbers of which are alike.
func filled() api.Cov {
	var p api.Cov
	for i := range p.D {
		p.D[i] = dOne + int64(i)
	}
	for k := range p.U {
		p.U[k] = 1000 + int64(k)
	}
	return p
}

// numbers are some for D and some for U.
type numbers struct{ d, u []int64 }

// allowed and wrong give numbers at the bounds and beyond them.
func allowed() numbers {
	return numbers{[]int64{1, 2, dOne, dMost - 1, dMost}, []int64{0, 1, -1, one, top - 1, top, 1 - top, -top}}
}

func wrong() numbers {
	return numbers{[]int64{0, -1, -dOne, dMost + 1, top, -top, most64, least64}, []int64{top + 1, -top - 1, most64, least64}}
}

// each gives covariances each of which differs from another in one number, in each place by each number that is given for it.
func each(p api.Cov, by numbers) []api.Cov {
	var l []api.Cov
	for i := range p.D {
		for _, v := range by.d {
			q := p
			q.D[i] = v
			l = append(l, q)
		}
	}
	for k := range p.U {
		for _, v := range by.u {
			q := p
			q.U[k] = v
			l = append(l, q)
		}
	}
	return l
}

// check holds a call against what it must answer: with the flag not set before it, and with the flag set.
func check[A comparable](t *testing.T, name string, given any, want A, hit bool, call func(c *fx.Acc) A) {
	t.Helper()
	for _, before := range []bool{false, true} {
		c := &fx.Acc{Hit: before}
		for range 2 {
			if got := call(c); got != want || c.Hit != (before || hit) {
				t.Fatalf("%s of %v, flag %v: %v, flag %v, not %v, flag %v", name, given, before, got, c.Hit, want, before || hit)
			}
		}
	}
}

func TestNew(t *testing.T) {
	long := make([]int64, 30)
	for i := range long {
		long[i] = int64(i) + 5
	}
	spoilt := slices.Clone(long)
	for i, v := range []int64{most64, least64, 0, dMost + 1, -1, 7} {
		spoilt[n+i] = v
	}
	edge := slices.Concat(long[:n-1], []int64{dMost + 1})
	for _, r := range []struct {
		d, want []int64
		hit     bool
	}{
		{nil, nil, false},
		{[]int64{}, nil, false},
		{[]int64{dOne}, []int64{dOne}, false},
		{[]int64{1, dMost, 2, dMost - 1}, []int64{1, dMost, 2, dMost - 1}, false},
		{long[:n-1], long[:n-1], false},
		{long[:n], long[:n], false},
		// Those beyond the last state are not looked at.
		{long[:n+1], long[:n], false},
		{long, long[:n], false},
		{spoilt, long[:n], false},
		{[]int64{0}, []int64{1}, true},
		{[]int64{5, -1, 6}, []int64{5, 1, 6}, true},
		{[]int64{5, least64}, []int64{5, 1}, true},
		{[]int64{dMost + 1, 5}, []int64{dMost, 5}, true},
		{[]int64{most64, top, -top}, []int64{dMost, dMost, 1}, true},
		{edge, slices.Concat(long[:n-1], []int64{dMost}), true},
	} {
		check(t, "P9.1: New", r.d, made(r.want), r.hit, func(c *fx.Acc) api.Cov { return tri.New(c, r.d...) })
	}
	if q := tri.New(&fx.Acc{}, dOne); q.U != [276]int64{} {
		t.Errorf("P9.1: New has numbers in U: %v", q.U)
	}
}

func TestNewLeavesItsListAlone(t *testing.T) {
	l := []int64{0, dMost + 1, 7, least64, most64}
	want := slices.Clone(l)
	tri.New(&fx.Acc{}, l[:3]...)
	if !slices.Equal(l, want) {
		t.Errorf("R4: New made %v of its list", l)
	}
	p := tri.New(&fx.Acc{}, l[:3]...)
	l[2] = 8
	if p.D[2] != 7 {
		t.Errorf("R4: New kept its list")
	}
}

func TestGood(t *testing.T) {
	for _, p := range each(filled(), allowed()) {
		if !tri.Good(p) {
			t.Fatalf("P9.1: Good of %v is false", p)
		}
	}
	for _, p := range each(filled(), wrong()) {
		if tri.Good(p) {
			t.Fatalf("P9.1: Good of %v is true", p)
		}
	}
	if tri.Good(api.Cov{}) || !tri.Good(made(nil)) || !tri.Good(tri.New(&fx.Acc{})) {
		t.Errorf("P9.1: Good of zeros, or of the least numbers")
	}
}

func TestU(t *testing.T) {
	p, at := filled(), places()
	for i := range n {
		for j := range n {
			want := int64(0)
			switch {
			case i == j:
				want = one
			case i < j:
				want = p.U[at[i][j]]
			}
			if got := tri.U(p, i, j); got != want {
				t.Errorf("P9.1: U(%d, %d) is %d, not %d", i, j, got, want)
			}
		}
	}
	for _, i := range outside() {
		for _, j := range slices.Concat(outside(), []int{0, 1, 5, 22, 23}) {
			if tri.U(p, i, j) != 0 || tri.U(p, j, i) != 0 {
				t.Errorf("P9.1: U(%d, %d) or turned is not 0", i, j)
			}
		}
	}
	// It tells what is there, also what may not be.
	q := made(nil, entry{0, 1, most64}, entry{22, 23, least64})
	if tri.U(q, 0, 1) != most64 || tri.U(q, 22, 23) != least64 {
		t.Errorf("P9.1: U clamps")
	}
	// Nothing in D tells of U, and its diagonal is One whatever else is there.
	if tri.U(api.Cov{}, 5, 5) != one || tri.U(api.Cov{}, 5, 6) != 0 || tri.U(api.Cov{}, 6, 5) != 0 {
		t.Errorf("P9.1: U of zeros")
	}
}

func TestSet(t *testing.T) {
	p, at := filled(), places()
	for i := range n {
		for j := range n {
			for _, v := range []int64{0, -77, top, top + 1, most64, least64} {
				want := p
				if i < j {
					want.U[at[i][j]] = v
				}
				if got := tri.Set(p, i, j, v); got != want {
					t.Fatalf("P9.1: Set(%d, %d, %d) is %v", i, j, v, got)
				}
			}
		}
	}
	for _, i := range outside() {
		for _, j := range slices.Concat(outside(), []int{0, 1, 5, 22, 23}) {
			if tri.Set(p, i, j, 5) != p || tri.Set(p, j, i, 5) != p {
				t.Errorf("P9.1: Set(%d, %d) or turned changes something", i, j)
			}
		}
	}
	if p != filled() {
		t.Errorf("R4: Set changed what it was handed")
	}
}

// asked is a number of a covariance that is asked for.
type asked struct {
	p    api.Cov
	i, j int
	want int64
	hit  bool
}

func checkAt(t *testing.T, l []asked) {
	t.Helper()
	for _, r := range l {
		check(t, "P9.1: At", r, r.want, r.hit, func(c *fx.Acc) int64 { return tri.At(c, r.p, r.i, r.j) })
	}
}

func TestAt(t *testing.T) {
	first := made([]int64{dOne})
	line := made([]int64{100, 10, 1000}, entry{0, 1, 2 * one}, entry{0, 2, -3 * one}, entry{1, 2, 5 * one})
	odd := made(nil, entry{1, 2, one / 2}, entry{0, 2, 3 * one})
	halves := made(nil, entry{0, 1, one / 2}, entry{0, 2, -one / 2}, entry{0, 3, one/2 - 1})
	quarters := made([]int64{1, 2, 2}, entry{0, 1, one / 4}, entry{0, 2, one / 2})
	last := made(slices.Repeat([]int64{1}, n-1), entry{0, 23, one}, entry{22, 23, 7 * one})
	last.D[23] = 1000
	checkAt(t, []asked{
		{first, 0, 0, dOne, false},
		{first, 1, 1, 1, false},
		{first, 23, 23, 1, false},
		{first, 0, 1, 0, false},
		{first, 1, 0, 0, false},
		{api.Cov{}, 0, 0, 0, false},
		{line, 0, 0, 100 + 4*10 + 9*1000, false},
		{line, 0, 1, 2*10 - 15*1000, false},
		{line, 1, 0, 2*10 - 15*1000, false},
		{line, 0, 2, -3 * 1000, false},
		{line, 2, 0, -3 * 1000, false},
		{line, 1, 1, 10 + 25*1000, false},
		{line, 1, 2, 5 * 1000, false},
		{line, 2, 1, 5 * 1000, false},
		{line, 2, 2, 1000, false},
		{line, 0, 3, 0, false},
		{line, 3, 0, 0, false},
		{line, 3, 3, 1, false},
		// Every column counts up to the last one.
		{last, 0, 22, 7 * 1000, false},
		{last, 22, 0, 7 * 1000, false},
		{last, 0, 0, 1 + 1000, false},
		{last, 22, 22, 1 + 49*1000, false},
		{last, 22, 23, 7 * 1000, false},
		{last, 23, 0, 1000, false},
		// x is made of the column's row j and is rounded, so that the order may show.
		{odd, 0, 1, 3, false},
		{odd, 1, 0, 2, false},
		{odd, 1, 1, 2, false},
		{odd, 0, 0, 10, false},
		// Halves are rounded away from 0, each x first; the products of U and x are summed exactly and rounded once.
		{halves, 0, 0, 2, false},
		{halves, 0, 1, 1, false},
		{halves, 0, 2, -1, false},
		{halves, 1, 0, 1, false},
		{halves, 2, 0, -1, false},
		{halves, 0, 3, 0, false},
		{halves, 3, 0, 0, false},
		{quarters, 0, 0, 2, false},
		// There is no such row or column.
		{first, -1, 0, 0, false},
		{first, 0, -1, 0, false},
		{first, 24, 24, 0, false},
		{first, -1, -1, 0, false},
	})
	for _, i := range outside() {
		for _, j := range slices.Concat(outside(), []int{0, 1, 5, 22, 23}) {
			checkAt(t, []asked{{filled(), i, j, 0, false}, {filled(), j, i, 0, false}})
		}
	}
}

func TestAtAtTheBounds(t *testing.T) {
	wide := made([]int64{1, dMost}, entry{0, 1, 2 * one})
	far := made([]int64{1, dMost, 1}, entry{0, 1, 16 * one}, entry{0, 2, one})
	apart := made([]int64{1, 1, dMost, dMost}, entry{0, 2, 16 * one}, entry{0, 3, 16 * one}, entry{1, 2, one}, entry{1, 3, -one})
	apart4 := made([]int64{1, 1, dMost, dMost, dMost}, entry{0, 2, 16 * one}, entry{0, 3, 16 * one}, entry{0, 4, -16 * one},
		entry{1, 2, one}, entry{1, 3, one}, entry{1, 4, one})
	huge := made([]int64{1, dMost}, entry{0, 1, -top})
	slanted := made([]int64{1, 1, dMost}, entry{0, 2, 32 * one}, entry{1, 2, one / 32})
	checkAt(t, []asked{
		{wide, 0, 0, 4*dMost + 1, false},
		{wide, 0, 1, 2 * dMost, false},
		{far, 0, 1, top, false},
		{far, 1, 0, top, false},
		{far, 0, 0, top, true},
		// A sum on the way may go beyond Max.
		{apart, 0, 1, 0, false},
		{apart4, 0, 1, top, false},
		{apart4, 1, 0, top, false},
		// An x may not, though the whole would not be beyond.
		{slanted, 0, 1, dMost, false},
		{slanted, 1, 0, dMost / 2, true},
		{huge, 0, 1, -top, true},
		{huge, 1, 0, -top, true},
		{huge, 0, 0, top, true},
		{huge, 1, 1, dMost, false},
		// What is beyond Max is clamped, in D and in both rows, and what is only beyond D's bounds is not.
		{made([]int64{0, -5}, entry{0, 1, 3 * one}), 0, 0, -45, false},
		{made([]int64{0, -5}, entry{0, 1, 3 * one}), 0, 1, -15, false},
		{made([]int64{dMost + 1}), 0, 0, dMost + 1, false},
		{made([]int64{top}), 0, 0, top, false},
		{made([]int64{top + 1}), 0, 0, top, true},
		{made([]int64{most64}), 0, 0, top, true},
		{made([]int64{least64}), 0, 0, -top, true},
		{made([]int64{1, 0}, entry{0, 1, top + 1}), 0, 0, 1, true},
		{made([]int64{1, 0}, entry{0, 1, least64}), 0, 1, 0, true},
		{made([]int64{1, 0}, entry{0, 1, least64}), 1, 0, 0, true},
		{made([]int64{1, 1}, entry{0, 1, most64}), 0, 1, one, true},
		{made([]int64{1, 1}, entry{0, 1, least64}), 1, 0, -one, true},
		{made([]int64{1, most64}, entry{0, 1, 0}), 0, 0, 1, true},
	})
}

// What stands ahead of the column at which a number begins, or in another row, has no part in it.
func TestAtLooksAtItsColumnsOnly(t *testing.T) {
	at := places()
	for _, r := range [][2]int{{0, 0}, {0, 23}, {23, 0}, {3, 17}, {17, 3}, {3, 4}, {4, 3}, {12, 12}, {23, 23}, {22, 22}, {1, 22}} {
		p := filled()
		i, j := r[0], r[1]
		first := max(i, j)
		for k := range n {
			if k < first {
				p.D[k] = least64
			}
			for a := range k {
				if k < first || a != i && a != j {
					p.U[at[a][k]] = least64
				}
			}
		}
		want := tri.At(&fx.Acc{}, filled(), i, j)
		check(t, "P9.1: At", r, want, false, func(c *fx.Acc) int64 { return tri.At(c, p, i, j) })
	}
}

func TestDiag(t *testing.T) {
	line := made([]int64{100, 10, 1000}, entry{0, 1, 2 * one}, entry{0, 2, -3 * one}, entry{1, 2, 5 * one})
	want := line.D
	want[0], want[1] = 100+4*10+9*1000, 10+25*1000
	check(t, "P9.1: Diag", line, want, false, func(c *fx.Acc) [24]int64 { return tri.Diag(c, line) })
	check(t, "P9.1: Diag", api.Cov{}, [24]int64{}, false, func(c *fx.Acc) [24]int64 { return tri.Diag(c, api.Cov{}) })
	// Each number of D and of U has a part in some variance.
	beyond := []int64{top + 1, least64}
	for _, p := range each(filled(), numbers{beyond, beyond}) {
		c := &fx.Acc{}
		for i, v := range tri.Diag(c, p) {
			if v != tri.At(&fx.Acc{}, p, i, i) {
				t.Fatalf("P9.1: Diag of %v: %d at %d", p, v, i)
			}
		}
		if !c.Hit {
			t.Fatalf("P9.1: Diag of %v does not set the flag", p)
		}
	}
}

func TestCondition(t *testing.T) {
	for _, p := range each(filled(), allowed()) {
		check(t, "P9.1: Condition", p, p, false, func(c *fx.Acc) api.Cov { return tri.Condition(c, p) })
	}
	for _, p := range each(filled(), wrong()) {
		want := p
		for i, d := range p.D {
			want.D[i] = min(max(d, 1), dMost)
		}
		for k, u := range p.U {
			want.U[k] = min(max(u, -top), top)
		}
		check(t, "P9.1: Condition", p, want, true, func(c *fx.Acc) api.Cov { return tri.Condition(c, p) })
	}
	check(t, "P9.1: Condition", "zeros", made(nil), true, func(c *fx.Acc) api.Cov { return tri.Condition(c, api.Cov{}) })
}

func TestMost(t *testing.T) {
	p := filled()
	p.U[0], p.U[275] = most64, top
	for i := range n {
		for _, v := range []int64{dOne + n, dMost, dMost + 1, top, most64} {
			q := p
			q.D[i] = v
			if got := tri.Most(q); got != v {
				t.Errorf("P9.1: Most with %d at %d is %d", v, i, got)
			}
		}
	}
	for i := range n {
		var q api.Cov
		for k := range q.D {
			q.D[k] = least64
		}
		if got := tri.Most(q); got != least64 {
			t.Errorf("P9.1: Most of the least numbers is %d", got)
		}
		q.D[i] = -7
		if got := tri.Most(q); got != -7 {
			t.Errorf("P9.1: Most with -7 at %d is %d", i, got)
		}
	}
	c := &fx.Acc{}
	if tri.Most(tri.New(c, dOne)) != dOne || tri.Most(tri.New(c)) != 1 || tri.Most(api.Cov{}) != 0 {
		t.Errorf("P9.1: Most of ordinary ones")
	}
}
