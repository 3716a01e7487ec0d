package vec_test

import (
	"math"
	"slices"
	"testing"

	"astrolabe/api"
	"astrolabe/fx"
	"astrolabe/vec"
)

const (
	one     = api.One
	top     = api.Max
	least64 = math.MinInt64
	most64  = math.MaxInt64
)

// row tells what a call of the given vectors answers, and whether it sets the flag; k: what Scale multiplies by.
type row struct {
	l    []vec.V
	k    int64
	want vec.V
	hit  bool
}

// number is a row whose call answers one number.
type number struct {
	l    []vec.V
	want int64
	hit  bool
}

// check holds a call against what it must answer: with the flag not set before it, and with the flag set.
func check[T comparable](t *testing.T, name string, given []vec.V, want T, hit bool, call func(c *fx.Acc, l []vec.V) T) {
	t.Helper()
	for _, before := range []bool{false, true} {
		c := &fx.Acc{Hit: before}
		for range 2 {
			if got := call(c, given); got != want || c.Hit != (before || hit) {
				t.Errorf("%s of %v, flag %v: %v, flag %v, not %v, flag %v",
					name, given, before, got, c.Hit, want, before || hit)
			}
		}
	}
}

// turn moves each component of a vector to the next place.
func turn(a vec.V) vec.V { return vec.V{a[2], a[0], a[1]} }

// checkTurned checks a call whose answer turns with the vectors that it is given, in each of their places.
func checkTurned(t *testing.T, name string, r row, call func(c *fx.Acc, l []vec.V) vec.V) {
	t.Helper()
	for range 3 {
		check(t, name, r.l, r.want, r.hit, call)
		r.l, r.want = turned(r.l), turn(r.want)
	}
}

// checkNumber checks a call whose answer stays when the vectors that it is given are turned.
func checkNumber(t *testing.T, name string, r number, call func(c *fx.Acc, l []vec.V) int64) {
	t.Helper()
	for range 3 {
		check(t, name, r.l, r.want, r.hit, call)
		r.l = turned(r.l)
	}
}

func turned(l []vec.V) []vec.V {
	var next []vec.V
	for _, a := range l {
		next = append(next, turn(a))
	}
	return next
}

func addOf(c *fx.Acc, l []vec.V) vec.V   { return vec.Add(c, l...) }
func subOf(c *fx.Acc, l []vec.V) vec.V   { return vec.Sub(c, l[0], l[1]) }
func dotOf(c *fx.Acc, l []vec.V) int64   { return vec.Dot(c, l[0], l[1]) }
func crossOf(c *fx.Acc, l []vec.V) vec.V { return vec.Cross(c, l[0], l[1]) }
func normOf(c *fx.Acc, l []vec.V) int64  { return vec.Norm(c, l[0]) }
func satOf(c *fx.Acc, l []vec.V) vec.V   { return vec.Sat(c, l[0]) }

func scaleBy(k int64) func(c *fx.Acc, l []vec.V) vec.V {
	return func(c *fx.Acc, l []vec.V) vec.V { return vec.Scale(c, l[0], k) }
}

func TestAdd(t *testing.T) {
	many, falling := slices.Repeat([]vec.V{{top, -top, 3}}, 100), slices.Repeat([]vec.V{{-top, top, -2}}, 100)
	for _, r := range []row{
		{nil, 0, vec.V{}, false},
		{[]vec.V{}, 0, vec.V{}, false},
		{[]vec.V{{1, -2, 3}}, 0, vec.V{1, -2, 3}, false},
		{[]vec.V{{top, -top, 0}}, 0, vec.V{top, -top, 0}, false},
		{[]vec.V{{1, 20, 300}, {4, 50, 600}}, 0, vec.V{5, 70, 900}, false},
		{[]vec.V{{1, 20, 300}, {4, 50, 600}, {-8, -80, -800}}, 0, vec.V{-3, -10, 100}, false},
		{[]vec.V{{one, 2 * one, 3}, {-5 * one, 7, one}, {1, 1, 1}}, 0, vec.V{-4*one + 1, 2*one + 8, one + 4}, false},
		{[]vec.V{{top, 5, 0}, {0, top - 5, -top}}, 0, vec.V{top, top, -top}, false},
		{[]vec.V{{top, 5, 0}, {1, 0, 0}}, 0, vec.V{top, 5, 0}, true},
		{[]vec.V{{-top, 5, 0}, {-1, 0, 0}}, 0, vec.V{-top, 5, 0}, true},
		// A sum on the way may go beyond Max.
		{[]vec.V{{top, -top, 0}, {top, -top, 0}, {-top, top, 0}}, 0, vec.V{top, -top, 0}, false},
		{[]vec.V{{top, 1, 0}, {1, -top, 2}, {-2, -3, 5}}, 0, vec.V{top - 1, -top, 7}, true},
		{[]vec.V{{top, top, 0}, {1, top, 0}, {0, -top, 0}}, 0, vec.V{top, top, 0}, true},
		{slices.Concat(many, falling), 0, vec.V{0, 0, 100}, false},
		{slices.Concat(falling, many[1:]), 0, vec.V{-top, top, 97}, false},
		{many, 0, vec.V{top, -top, 300}, true},
		// Each number is clamped for itself.
		{[]vec.V{{top + 1, 0, 9}, {-1, 0, 9}}, 0, vec.V{top - 1, 0, 18}, true},
		{[]vec.V{{-1, 0, 9}, {top + 1, 0, 9}}, 0, vec.V{top - 1, 0, 18}, true},
		{[]vec.V{{least64, most64, 0}, {1, -1, 0}}, 0, vec.V{1 - top, top - 1, 0}, true},
		{[]vec.V{{most64, least64, 0}, {least64, most64, 0}}, 0, vec.V{}, true},
		{[]vec.V{{-top - 1, 0, 0}}, 0, vec.V{-top, 0, 0}, true},
	} {
		checkTurned(t, "P5.1: Add", r, addOf)
	}
}

func TestSub(t *testing.T) {
	for _, r := range []row{
		{[]vec.V{{one, 2 * one, 3}, {-5 * one, 7, one}}, 0, vec.V{6 * one, 2*one - 7, 3 - one}, false},
		{[]vec.V{{3, 50, 700}, {5, 20, 700}}, 0, vec.V{-2, 30, 0}, false},
		{[]vec.V{{0, 0, top}, {top, -top, top}}, 0, vec.V{-top, top, 0}, false},
		{[]vec.V{{top, 0, 0}, {-1, 0, 0}}, 0, vec.V{top, 0, 0}, true},
		{[]vec.V{{-top, 0, 4}, {1, 0, 5}}, 0, vec.V{-top, 0, -1}, true},
		{[]vec.V{{top, -top, 0}, {-top, top, 0}}, 0, vec.V{top, -top, 0}, true},
		{[]vec.V{{top + 1, 8, 8}, {1, 0, 0}}, 0, vec.V{top - 1, 8, 8}, true},
		{[]vec.V{{1, 8, 8}, {top + 1, 0, 0}}, 0, vec.V{1 - top, 8, 8}, true},
		{[]vec.V{{0, -1, 0}, {least64, least64, 0}}, 0, vec.V{top, top - 1, 0}, true},
		{[]vec.V{{least64, most64, 0}, {least64, most64, 0}}, 0, vec.V{}, true},
		{[]vec.V{{least64, most64, 0}, {most64, least64, 0}}, 0, vec.V{-top, top, 0}, true},
	} {
		checkTurned(t, "P5.1: Sub", r, subOf)
	}
}

func TestScale(t *testing.T) {
	for _, r := range []row{
		{[]vec.V{{one, 2 * one, 3}}, one / 2, vec.V{one / 2, one, 2}, false},
		{[]vec.V{{one, 2 * one, 3}}, -one / 2, vec.V{-one / 2, -one, -2}, false},
		{[]vec.V{{5, -6, 7}}, one, vec.V{5, -6, 7}, false},
		{[]vec.V{{5, -6, 7}}, -3 * one, vec.V{-15, 18, -21}, false},
		{[]vec.V{{5, -6, 7}}, 0, vec.V{}, false},
		// Halves are rounded away from 0.
		{[]vec.V{{1, -1, -3}}, one / 2, vec.V{1, -1, -2}, false},
		{[]vec.V{{1, -1, -3}}, one/2 - 1, vec.V{0, 0, -1}, false},
		{[]vec.V{{top, -top, 0}}, one, vec.V{top, -top, 0}, false},
		{[]vec.V{{top, -top, 0}}, -one, vec.V{-top, top, 0}, false},
		{[]vec.V{{one, -one, 1}}, top, vec.V{top, -top, one}, false},
		{[]vec.V{{top, 0, 1}}, one + 1, vec.V{top, 0, 1}, true},
		{[]vec.V{{top, 0, 1}}, -one - 1, vec.V{-top, 0, -1}, true},
		{[]vec.V{{one + 1, 0, 1}}, top, vec.V{top, 0, one}, true},
		{[]vec.V{{top, -top, 0}}, top, vec.V{top, -top, 0}, true},
		// What is multiplied is clamped first.
		{[]vec.V{{top + 1, 0, 4}}, one / 2, vec.V{top / 2, 0, 2}, true},
		{[]vec.V{{least64, most64, 4}}, one / 2, vec.V{-top / 2, top / 2, 2}, true},
		{[]vec.V{{1, -1, 0}}, top + 1, vec.V{one, -one, 0}, true},
		{[]vec.V{{1, -1, 0}}, least64, vec.V{-one, one, 0}, true},
		{[]vec.V{{}}, most64, vec.V{}, true},
		{[]vec.V{{most64, 0, 0}}, 0, vec.V{}, true},
	} {
		checkTurned(t, "P5.1: Scale", r, scaleBy(r.k))
	}
}

func TestDot(t *testing.T) {
	for _, r := range []number{
		{[]vec.V{{one, 2 * one, 3}, {-5 * one, 7, one}}, -5*one + 17, false},
		{[]vec.V{{2, 3, 5}, {7 * one, 11 * one, 13 * one}}, 112, false},
		{[]vec.V{{2, 0, 0}, {0, 3 * one, 5 * one}}, 0, false},
		// The whole is rounded once: not each product.
		{[]vec.V{{1, 1, 1}, {one / 4, one / 4, one / 4}}, 1, false},
		{[]vec.V{{1, 1, 0}, {one / 4, one / 4, one}}, 1, false},
		{[]vec.V{{1, 1, 0}, {-one / 4, -one / 4, one}}, -1, false},
		{[]vec.V{{1, 1, 0}, {one / 4, one/4 - 1, one}}, 0, false},
		{[]vec.V{{1, 1, 1}, {one / 2, one / 2, one / 2}}, 2, false},
		{[]vec.V{{1, 1, 1}, {one / 2, -one / 2, 0}}, 0, false},
		{[]vec.V{{1, 1, 0}, {one / 2, one / 2, 0}}, 1, false},
		// A sum on the way may go beyond Max.
		{[]vec.V{{top, top, top}, {one, one, -one}}, top, false},
		{[]vec.V{{top, top, top}, {-one, -one, one}}, -top, false},
		{[]vec.V{{top, top, 0}, {top, -top, 0}}, 0, false},
		{[]vec.V{{top, one, 0}, {one, 1, 0}}, top, true},
		{[]vec.V{{-top, one, 0}, {one, -1, 0}}, -top, true},
		{[]vec.V{{top, top, top}, {top, top, top}}, top, true},
		{[]vec.V{{top, top, top}, {-top, -top, -top}}, -top, true},
		// It is rounded first, and clamped then.
		{[]vec.V{{top, 1, 0}, {one, one/2 - 1, 0}}, top, false},
		{[]vec.V{{top, 1, 0}, {one, one / 2, 0}}, top, true},
		// Each number is clamped for itself, even if it is multiplied by 0.
		{[]vec.V{{top + 1, 0, 0}, {one, 0, 0}}, top, true},
		{[]vec.V{{one, 0, 0}, {-top - 1, 0, 0}}, -top, true},
		{[]vec.V{{most64, top, 5}, {one, -one, one}}, 5, true},
		{[]vec.V{{one, one, 5}, {least64, top, one}}, 5, true},
		{[]vec.V{{least64, 0, 5}, {0, 0, one}}, 5, true},
		{[]vec.V{{0, 0, 5}, {most64, 0, one}}, 5, true},
	} {
		checkNumber(t, "P5.1: Dot", r, dotOf)
	}
}

func TestCross(t *testing.T) {
	for _, r := range []row{
		{[]vec.V{{one, 0, 0}, {0, one, 0}}, 0, vec.V{0, 0, one}, false},
		{[]vec.V{{0, one, 0}, {one, 0, 0}}, 0, vec.V{0, 0, -one}, false},
		{[]vec.V{{one, 2 * one, 3}, {-5 * one, 7, one}}, 0, vec.V{2147483648, -1073741839, 10737418247}, false},
		{[]vec.V{{2, 3, 5}, {7 * one, 11 * one, 13 * one}}, 0, vec.V{-16, 9, 1}, false},
		{[]vec.V{{2, -3, 5}, {2 * one, -3 * one, 5 * one}}, 0, vec.V{}, false},
		{[]vec.V{{2, -3, 5}, {}}, 0, vec.V{}, false},
		// Each component is rounded once: not each product.
		{[]vec.V{{1, 1, 0}, {-one / 4, one / 4, 0}}, 0, vec.V{0, 0, 1}, false},
		{[]vec.V{{1, 1, 0}, {one / 4, -one / 4, 0}}, 0, vec.V{0, 0, -1}, false},
		{[]vec.V{{1, 1, 0}, {1 - one/4, one / 4, 0}}, 0, vec.V{}, false},
		{[]vec.V{{1, 1, 0}, {-one / 2, one / 2, 0}}, 0, vec.V{0, 0, 1}, false},
		{[]vec.V{{1, 1, 0}, {one / 2, one / 2, 0}}, 0, vec.V{}, false},
		// A product may go beyond Max.
		{[]vec.V{{top, top, 0}, {top, top, 0}}, 0, vec.V{}, false},
		{[]vec.V{{top, top, 0}, {one, 2 * one, 0}}, 0, vec.V{0, 0, top}, false},
		{[]vec.V{{top, top, 0}, {2 * one, one, 0}}, 0, vec.V{0, 0, -top}, false},
		{[]vec.V{{top, -1, 0}, {one, one, 0}}, 0, vec.V{0, 0, top}, true},
		{[]vec.V{{-top, 1, 0}, {one, one, 0}}, 0, vec.V{0, 0, -top}, true},
		{[]vec.V{{top, -top, 0}, {top, top, 0}}, 0, vec.V{0, 0, top}, true},
		{[]vec.V{{top, top, 0}, {top, -top, 0}}, 0, vec.V{0, 0, -top}, true},
		// Each number is clamped for itself: ahead of its sign, and even if it is multiplied by 0.
		{[]vec.V{{0, 0, least64}, {0, 1, 0}}, 0, vec.V{one, 0, 0}, true},
		{[]vec.V{{0, 0, least64}, {1, 0, 0}}, 0, vec.V{0, -one, 0}, true},
		{[]vec.V{{0, 0, most64}, {0, 1, 0}}, 0, vec.V{-one, 0, 0}, true},
		{[]vec.V{{0, 0, -top - 1}, {0, 1, 0}}, 0, vec.V{one, 0, 0}, true},
		{[]vec.V{{0, 1, 0}, {0, 0, least64}}, 0, vec.V{-one, 0, 0}, true},
		{[]vec.V{{1, 0, 0}, {0, 0, top + 1}}, 0, vec.V{0, -one, 0}, true},
		{[]vec.V{{least64, 0, 0}, {most64, 0, 0}}, 0, vec.V{}, true},
		{[]vec.V{{least64, 0, 0}, {}}, 0, vec.V{}, true},
		{[]vec.V{{}, {top + 1, 0, 0}}, 0, vec.V{}, true},
	} {
		checkTurned(t, "P5.1: Cross", r, crossOf)
	}
}

func TestNorm(t *testing.T) {
	for _, r := range []number{
		{[]vec.V{{3 * one, 4 * one, 0}}, 5 * one, false},
		{[]vec.V{{-3 * one, 4 * one, -12 * one}}, 13 * one, false},
		{[]vec.V{{}}, 0, false},
		{[]vec.V{{0, -7, 0}}, 7, false},
		// The roots of 2, of 3 and of 6, rounded.
		{[]vec.V{{1, -1, 0}}, 1, false},
		{[]vec.V{{1, 1, 1}}, 2, false},
		{[]vec.V{{1, -2, 1}}, 2, false},
		{[]vec.V{{one, one, 0}}, 1518500250, false},
		{[]vec.V{{one, one, one}}, 1859775393, false},
		{[]vec.V{{top, 0, 0}}, top, false},
		{[]vec.V{{-top, one, 0}}, top, false},
		{[]vec.V{{-top, one + 1, 0}}, top, true},
		{[]vec.V{{top / 2, top / 2, -top / 2}}, 998459311558907194, false},
		{[]vec.V{{top, -top, top}}, top, true},
		{[]vec.V{{top + 1, 0, 0}}, top, true},
		{[]vec.V{{least64, 0, 0}}, top, true},
		{[]vec.V{{most64, least64, most64}}, top, true},
	} {
		checkNumber(t, "P5.1: Norm", r, normOf)
	}
}

func TestSat(t *testing.T) {
	for _, r := range []row{
		{[]vec.V{{}}, 0, vec.V{}, false},
		{[]vec.V{{1, -2, 3}}, 0, vec.V{1, -2, 3}, false},
		{[]vec.V{{top, -top, top - 1}}, 0, vec.V{top, -top, top - 1}, false},
		{[]vec.V{{top + 1, 2, 3}}, 0, vec.V{top, 2, 3}, true},
		{[]vec.V{{-top - 1, 2, 3}}, 0, vec.V{-top, 2, 3}, true},
		{[]vec.V{{least64, 5, most64}}, 0, vec.V{-top, 5, top}, true},
		{[]vec.V{{most64, most64, most64}}, 0, vec.V{top, top, top}, true},
	} {
		checkTurned(t, "P5.1: Sat", r, satOf)
	}
}

func TestAddLeavesItsListAlone(t *testing.T) {
	l := []vec.V{{3, most64, 1}, {least64, -4, 2}, {top + 1, 8, 3}, {5, 6, least64}}
	want := slices.Clone(l)
	c := &fx.Acc{}
	for n := range l {
		if first, again := vec.Add(c, l[:n]...), vec.Add(c, l[:n]...); first != again {
			t.Errorf("R5: Add of %d vectors told first %v, then %v", n, first, again)
		}
	}
	if !slices.Equal(l, want) {
		t.Errorf("R4: Add made %v of %v", l, want)
	}
}
