package quat_test

import (
	"math"
	"math/big"
	"slices"
	"testing"

	"astrolabe/api"
	"astrolabe/fx"
	"astrolabe/quat"
)

const (
	one     = api.One
	top     = api.Max
	least64 = math.MinInt64
	most64  = math.MaxInt64
)

// row tells what a call of the given quaternions answers, and whether it sets the flag.
type row struct {
	l    []quat.Quat
	want quat.Quat
	hit  bool
}

// number is a row whose call answers one number.
type number struct {
	l    []quat.Quat
	want int64
	hit  bool
}

// check holds a call against what it must answer: with the flag not set before it, and with the flag set.
func check[T comparable](t *testing.T, name string, given []quat.Quat, want T, hit bool, call func(c *fx.Acc, l []quat.Quat) T) {
	t.Helper()
	for _, before := range []bool{false, true} {
		c := &fx.Acc{Hit: before}
		for range 2 {
			if got := call(c, given); got != want || c.Hit != (before || hit) {
				t.Errorf("%s of %v, flag %v: %v, flag %v, not %v, flag %v",
					name, given, before, got, c.Hit, want, before || hit)
			}
		}
	}
}

func mulOf(c *fx.Acc, l []quat.Quat) quat.Quat   { return quat.Mul(c, l[0], l[1]) }
func chainOf(c *fx.Acc, l []quat.Quat) quat.Quat { return quat.Chain(c, l...) }
func norm2Of(c *fx.Acc, l []quat.Quat) int64     { return quat.Norm2(c, l[0]) }
func unitOf(c *fx.Acc, l []quat.Quat) quat.Quat  { return quat.Unit(c, l[0]) }

func TestOne(t *testing.T) {
	if got := quat.One(); got != (quat.Quat{one, 0, 0, 0}) {
		t.Errorf("P6.1: One is %v", got)
	}
}

// basis tells the product of two of 1, i, j and k: one of them, by its place, and its sign.
func basis(a, b int) (int, int64) {
	signs := [4][4]int64{{1, 1, 1, 1}, {1, -1, 1, -1}, {1, -1, -1, 1}, {1, 1, -1, -1}}
	places := [4][4]int{{0, 1, 2, 3}, {1, 0, 3, 2}, {2, 3, 0, 1}, {3, 2, 1, 0}}
	return places[a][b], signs[a][b]
}

func TestMulOfBasis(t *testing.T) {
	for i := range 4 {
		for j := range 4 {
			var a, b, want quat.Quat
			a[i], b[j] = 3, -5*one
			place, sign := basis(i, j)
			want[place] = -15 * sign
			check(t, "P6.1: Mul", []quat.Quat{a, b}, want, false, mulOf)
		}
	}
}

func TestMul(t *testing.T) {
	for _, r := range []row{
		{[]quat.Quat{{0, one, 0, 0}, {0, 0, one, 0}}, quat.Quat{0, 0, 0, one}, false},
		{[]quat.Quat{{0, 0, one, 0}, {0, one, 0, 0}}, quat.Quat{0, 0, 0, -one}, false},
		{[]quat.Quat{{2, 3, 5, 7}, {11 * one, 13 * one, 17 * one, 19 * one}}, quat.Quat{-235, 35, 123, 101}, false},
		{[]quat.Quat{{11 * one, 13 * one, 17 * one, 19 * one}, {2, 3, 5, 7}}, quat.Quat{-235, 83, 55, 129}, false},
		{[]quat.Quat{{one, 2 * one, -3 * one, 5}, {7, -one, one / 3, one}}, quat.Quat{3221225473, -4294967284, -1789569733, -1431655766}, false},
		{[]quat.Quat{{one}, {1, -2, 3, -4}}, quat.Quat{1, -2, 3, -4}, false},
		{[]quat.Quat{{1, -2, 3, -4}, {one}}, quat.Quat{1, -2, 3, -4}, false},
		{[]quat.Quat{{one}, {top, -top, top, -top}}, quat.Quat{top, -top, top, -top}, false},
		{[]quat.Quat{{}, {1, -2, 3, top}}, quat.Quat{}, false},
		{[]quat.Quat{{1, -2, 3, top}, {}}, quat.Quat{}, false},
		// Each component is rounded once, not each product; halves away from 0.
		{[]quat.Quat{{1, 1, 1, 1}, {one / 4, -one / 4, -one / 4, -one / 4}}, quat.Quat{1, 0, 0, 0}, false},
		{[]quat.Quat{{1, 1, 1, 1}, {one / 4, one / 4, -one / 4, one / 4}}, quat.Quat{0, 1, 0, 0}, false},
		{[]quat.Quat{{1, 1, 1, 1}, {one / 4, one / 4, one / 4, -one / 4}}, quat.Quat{0, 0, 1, 0}, false},
		{[]quat.Quat{{1, 1, 1, 1}, {one / 4, -one / 4, one / 4, one / 4}}, quat.Quat{0, 0, 0, 1}, false},
		{[]quat.Quat{{1, 1, 1, 1}, {-one / 4, one / 4, one / 4, one / 4}}, quat.Quat{-1, 0, 0, 0}, false},
		{[]quat.Quat{{1, 0, 0, 0}, {one / 2, -one / 2, one/2 - 1, 1 - one/2}}, quat.Quat{1, -1, 0, 0}, false},
		// A sum on the way may go beyond Max.
		{[]quat.Quat{{top, top, top, top}, {one / 2, -one / 2, -one / 2, one / 2}}, quat.Quat{top, top, -top, top}, false},
		{[]quat.Quat{{one / 2, -one / 2, -one / 2, one / 2}, {-top, -top, -top, -top}}, quat.Quat{-top, top, -top, -top}, false},
		{[]quat.Quat{{top, top, 0, 0}, {2 * one, 2 * one, 0, 0}}, quat.Quat{0, top, 0, 0}, true},
		{[]quat.Quat{{top, 0, top, 0}, {one, 0, one + 1, 0}}, quat.Quat{-one, 0, top, 0}, true},
		{[]quat.Quat{{top, top, top, top}, {one, one, one, one}}, quat.Quat{-top, top, top, top}, true},
		// It is rounded first, and clamped then.
		{[]quat.Quat{{top, 1, 0, 0}, {one, 1 - one/2, 0, 0}}, quat.Quat{top, one - top/2 + 1, 0, 0}, false},
		{[]quat.Quat{{top, 1, 0, 0}, {one, -one / 2, 0, 0}}, quat.Quat{top, 1 - top/2, 0, 0}, true},
		// Each number is clamped for itself: ahead of its sign, and even if it is multiplied by 0.
		{[]quat.Quat{{0, least64, 0, 0}, {0, 1, 0, 0}}, quat.Quat{one, 0, 0, 0}, true},
		{[]quat.Quat{{0, 0, least64, 0}, {0, 0, 1, 0}}, quat.Quat{one, 0, 0, 0}, true},
		{[]quat.Quat{{0, 0, 0, least64}, {0, 0, 0, 1}}, quat.Quat{one, 0, 0, 0}, true},
		{[]quat.Quat{{0, 1, 0, 0}, {0, least64, 0, 0}}, quat.Quat{one, 0, 0, 0}, true},
		{[]quat.Quat{{0, 0, most64, 0}, {0, 1, 0, 0}}, quat.Quat{0, 0, 0, -one}, true},
		{[]quat.Quat{{top + 1, 0, 0, 0}, {1, 2, 3, 4}}, quat.Quat{one, 2 * one, 3 * one, 4 * one}, true},
		{[]quat.Quat{{1, 2, 3, 4}, {-top - 1, 0, 0, 0}}, quat.Quat{-one, -2 * one, -3 * one, -4 * one}, true},
		{[]quat.Quat{{top + 1}, {}}, quat.Quat{}, true},
		{[]quat.Quat{{}, {0, 0, 0, least64}}, quat.Quat{}, true},
	} {
		check(t, "P6.1: Mul", r.l, r.want, r.hit, mulOf)
	}
}

func TestChain(t *testing.T) {
	i, j, k := quat.Quat{0, one, 0, 0}, quat.Quat{0, 0, one, 0}, quat.Quat{0, 0, 0, one}
	half, twice := quat.Quat{one / 2}, quat.Quat{2 * one}
	for _, r := range []row{
		{nil, quat.Quat{one}, false},
		{[]quat.Quat{}, quat.Quat{one}, false},
		{[]quat.Quat{j}, j, false},
		{[]quat.Quat{{1, -2, 3, -4}}, quat.Quat{1, -2, 3, -4}, false},
		{[]quat.Quat{{}}, quat.Quat{}, false},
		{[]quat.Quat{i, j}, k, false},
		{[]quat.Quat{j, i}, quat.Quat{0, 0, 0, -one}, false},
		{[]quat.Quat{i, j, k}, quat.Quat{-one}, false},
		{[]quat.Quat{k, j, i}, quat.Quat{one}, false},
		{[]quat.Quat{i, i, i}, quat.Quat{0, -one}, false},
		{slices.Repeat([]quat.Quat{k}, 403), quat.Quat{0, 0, 0, -one}, false},
		{slices.Repeat([]quat.Quat{{one, one, 0, 0}}, 4), quat.Quat{-4 * one}, false},
		// From the left to the right, rounded after each.
		{[]quat.Quat{{1}, half, twice}, quat.Quat{2}, false},
		{[]quat.Quat{{1}, twice, half}, quat.Quat{1}, false},
		{[]quat.Quat{{1}, {one / 4}, {4 * one}}, quat.Quat{}, false},
		// A product on the way is clamped.
		{[]quat.Quat{{top}, twice, half}, quat.Quat{top / 2}, true},
		{[]quat.Quat{{top}, half, twice}, quat.Quat{top}, false},
		{[]quat.Quat{{top + 1}}, quat.Quat{top}, true},
		{[]quat.Quat{{0, least64, 0, most64}}, quat.Quat{0, -top, 0, top}, true},
		{[]quat.Quat{{}, {0, 0, most64, 0}}, quat.Quat{}, true},
		{[]quat.Quat{{0, 0, most64, 0}, {}}, quat.Quat{}, true},
	} {
		check(t, "P6.1: Chain", r.l, r.want, r.hit, chainOf)
	}
}

func TestChainLeavesItsListAlone(t *testing.T) {
	l := []quat.Quat{{one, 3, most64, 1}, {least64, -4, 2, one}, {top + 1, 8, 3, 0}, {5, 6, least64, 7}}
	want := slices.Clone(l)
	c := &fx.Acc{}
	for n := range l {
		if first, again := quat.Chain(c, l[:n]...), quat.Chain(c, l[:n]...); first != again {
			t.Errorf("R5: Chain of %d quaternions told first %v, then %v", n, first, again)
		}
	}
	if !slices.Equal(l, want) {
		t.Errorf("R4: Chain made %v of %v", l, want)
	}
}

func TestConj(t *testing.T) {
	for _, r := range []struct{ a, want quat.Quat }{
		{quat.Quat{1, 2, -3, least64}, quat.Quat{1, -2, 3, top}},
		{quat.Quat{}, quat.Quat{}},
		{quat.Quat{one}, quat.Quat{one}},
		{quat.Quat{-1, -2, 3, 4}, quat.Quat{-1, 2, -3, -4}},
		{quat.Quat{top, top, -top, top}, quat.Quat{top, -top, top, -top}},
		{quat.Quat{-top, 1 - top, top - 1, 0}, quat.Quat{-top, top - 1, 1 - top, 0}},
		{quat.Quat{top + 1, top + 1, -top - 1, 5}, quat.Quat{top, -top, top, -5}},
		{quat.Quat{-top - 1, 5, top + 1, -top - 1}, quat.Quat{-top, -5, -top, top}},
		{quat.Quat{most64, most64, most64, most64}, quat.Quat{top, -top, -top, -top}},
		{quat.Quat{least64, least64, least64, least64}, quat.Quat{-top, top, top, top}},
	} {
		if got := quat.Conj(r.a); got != r.want {
			t.Errorf("P6.1: Conj of %v: %v, not %v", r.a, got, r.want)
		}
	}
}

func TestNorm2(t *testing.T) {
	for _, r := range []number{
		{[]quat.Quat{{one, -one, 3, 0}}, 2 * one, false},
		{[]quat.Quat{{one, 2 * one, -3 * one, 4 * one}}, 30 * one, false},
		{[]quat.Quat{{}}, 0, false},
		{[]quat.Quat{{one, 0, 0, 0}}, one, false},
		{[]quat.Quat{{0, one, 0, 0}}, one, false},
		{[]quat.Quat{{0, 0, one, 0}}, one, false},
		{[]quat.Quat{{0, 0, 0, one}}, one, false},
		// The whole is rounded once: not each square.
		{[]quat.Quat{{1 << 14, 1 << 14, 0, 0}}, 1, false},
		{[]quat.Quat{{0, 1 << 14, 1<<14 - 1, 0}}, 0, false},
		{[]quat.Quat{{1 << 14, -1 << 14, 1 << 14, 1 << 14}}, 1, false},
		{[]quat.Quat{{1 << 14, 1 << 14, 1 << 15, 0}}, 2, false},
		{[]quat.Quat{{1 << 45, 0, 0, 0}}, top, false},
		{[]quat.Quat{{0, 1 << 44, -1 << 44, 1 << 44}}, 3 << 58, false},
		{[]quat.Quat{{1 << 44, 1 << 44, 1 << 44, 1 << 44}}, top, false},
		// It is rounded first, and clamped then.
		{[]quat.Quat{{1 << 45, 23170, 0, 0}}, top, false},
		{[]quat.Quat{{1 << 45, 23171, 0, 0}}, top, true},
		{[]quat.Quat{{0, 0, 1<<45 + 1, 0}}, top, true},
		{[]quat.Quat{{top, 0, 0, 0}}, top, true},
		{[]quat.Quat{{top, -top, top, -top}}, top, true},
		{[]quat.Quat{{0, 0, top + 1, 0}}, top, true},
		{[]quat.Quat{{least64, least64, least64, least64}}, top, true},
		{[]quat.Quat{{0, 0, 0, most64}}, top, true},
	} {
		check(t, "P6.1: Norm2", r.l, r.want, r.hit, norm2Of)
	}
}

func TestUnit(t *testing.T) {
	for _, r := range []row{
		{[]quat.Quat{{}}, quat.Quat{one}, false},
		{[]quat.Quat{{2}}, quat.Quat{one}, false},
		{[]quat.Quat{{-2}}, quat.Quat{-one}, false},
		{[]quat.Quat{{0, 0, 0, 1}}, quat.Quat{0, 0, 0, one}, false},
		{[]quat.Quat{{0, -7 * one, 0, 0}}, quat.Quat{0, -one, 0, 0}, false},
		{[]quat.Quat{{-3 * one, 0, 4 * one, 0}}, quat.Quat{-644245094, 0, 858993459, 0}, false},
		{[]quat.Quat{{one, one, -one, one}}, quat.Quat{one / 2, one / 2, -one / 2, one / 2}, false},
		// The first length is rounded to 1, to 2 and to 6.
		{[]quat.Quat{{1, 0, 0, 1}}, quat.Quat{759250125, 0, 0, 759250125}, false},
		{[]quat.Quat{{0, -1, 1, 1}}, quat.Quat{0, -619925131, 619925131, 619925131}, false},
		{[]quat.Quat{{5, -3, 2, 1}}, quat.Quat{859681480, -515808888, 343872592, 171936296}, false},
		{[]quat.Quat{{top, 0, 0, 0}}, quat.Quat{one}, false},
		{[]quat.Quat{{0, 0, -top, one}}, quat.Quat{0, 0, -one, 1}, false},
		// The first length is beyond Max.
		{[]quat.Quat{{top, top, top, top}}, quat.Quat{one / 2, one / 2, one / 2, one / 2}, true},
		{[]quat.Quat{{0, top, 0, -top}}, quat.Quat{0, 759250125, 0, -759250125}, true},
		{[]quat.Quat{{0, top, 0, one + 1}}, quat.Quat{0, one, 0, 1}, true},
		// Each number is clamped for itself.
		{[]quat.Quat{{most64, 1, 0, 0}}, quat.Quat{one}, true},
		{[]quat.Quat{{0, 0, least64, 0}}, quat.Quat{0, 0, -one, 0}, true},
		{[]quat.Quat{{0, 0, 0, top + 1}}, quat.Quat{0, 0, 0, one}, true},
		{[]quat.Quat{{most64, 0, top, 0}}, quat.Quat{759250125, 0, 759250125, 0}, true},
		{[]quat.Quat{{least64, most64, most64, least64}}, quat.Quat{-one / 2, one / 2, one / 2, -one / 2}, true},
	} {
		check(t, "P6.2: Unit", r.l, r.want, r.hit, unitOf)
	}
}

func TestSame(t *testing.T) {
	for _, r := range []struct {
		a, b quat.Quat
		want bool
	}{
		{quat.Quat{1, -2, 3, 0}, quat.Quat{-1, 2, -3, 0}, true},
		{quat.Quat{1, -2, 3, 0}, quat.Quat{1, -2, 3, 0}, true},
		{quat.Quat{}, quat.Quat{}, true},
		{quat.Quat{top, -top, 1, one}, quat.Quat{-top, top, -1, -one}, true},
		// Another number, in each place, and some of the signs alone.
		{quat.Quat{1, -2, 3, 4}, quat.Quat{2, -2, 3, 4}, false},
		{quat.Quat{1, -2, 3, 4}, quat.Quat{1, -3, 3, 4}, false},
		{quat.Quat{1, -2, 3, 4}, quat.Quat{1, -2, 2, 4}, false},
		{quat.Quat{1, -2, 3, 4}, quat.Quat{1, -2, 3, 5}, false},
		{quat.Quat{1, -2, 3, 4}, quat.Quat{0, 2, -3, -4}, false},
		{quat.Quat{1, -2, 3, 4}, quat.Quat{-1, 3, -3, -4}, false},
		{quat.Quat{1, -2, 3, 4}, quat.Quat{-1, 2, 3, -4}, false},
		{quat.Quat{1, -2, 3, 4}, quat.Quat{-1, 2, -3, 4}, false},
		{quat.Quat{1, -2, 3, 4}, quat.Quat{1, 2, -3, -4}, false},
		{quat.Quat{1, -2, 3, 4}, quat.Quat{}, false},
		{quat.Quat{one}, quat.Quat{0, one, 0, 0}, false},
		// Beyond Max: the same numbers are so as they are, and one is clamped ahead of its sign (chapter 5).
		{quat.Quat{least64, most64, 1, 0}, quat.Quat{least64, most64, 1, 0}, true},
		{quat.Quat{least64, 1, 0, 0}, quat.Quat{least64, -1, 0, 0}, false},
		{quat.Quat{least64, 0, 0, 0}, quat.Quat{most64, 0, 0, 0}, false},
		{quat.Quat{most64, 0, 0, 0}, quat.Quat{top, 0, 0, 0}, false},
		{quat.Quat{most64, 1, 0, 0}, quat.Quat{-top, -1, 0, 0}, true},
		{quat.Quat{1, 0, 0, least64}, quat.Quat{-1, 0, 0, top}, true},
		{quat.Quat{1, 0, 0, top}, quat.Quat{-1, 0, 0, least64}, false},
	} {
		if got := quat.Same(r.a, r.b); got != r.want {
			t.Errorf("P6.2: Same of %v and %v: %v", r.a, r.b, got)
		}
	}
}

// checkLength holds the length of a result of Unit against its bounds.
func checkLength(t *testing.T, a quat.Quat) {
	t.Helper()
	sum := big.NewInt(-one * one)
	q := quat.Unit(&fx.Acc{}, a)
	for _, x := range q {
		sum.Add(sum, new(big.Int).Mul(big.NewInt(x), big.NewInt(x)))
	}
	if sum.CmpAbs(big.NewInt(1<<32)) > 0 {
		t.Errorf("P6.3: Unit of %v is %v, whose squares are %v off", a, q, sum)
	}
}

func TestUnitsAreOfLengthOne(t *testing.T) {
	const span = 11 // of small numbers: from -5 to 5
	for n := range int64(span * span * span * span) {
		a := quat.Quat{n%span - 5, n/span%span - 5, n/span/span%span - 5, n/span/span/span - 5}
		checkLength(t, a)
		for i := range a {
			a[i] *= top / 5
		}
		checkLength(t, a)
	}
	l := edges()
	for n, x := range l {
		for o, y := range l {
			checkLength(t, quat.Quat{x, y, 0, 1})
			checkLength(t, quat.Quat{strewn(uint64(n)) >> (o % 64), x, y, x})
		}
	}
	for i := range uint64(30000) {
		var a quat.Quat
		for k := range a {
			a[k] = strewn(i*4+uint64(k)) >> (i % 64)
		}
		checkLength(t, a)
	}
}
