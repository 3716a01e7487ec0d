package trig_test

import (
	"math/big"
	"testing"

	"astrolabe/trig"
)

// The tests of this file hold each call against the chapter's steps in big numbers, at the edges and at numbers strewn between them.

// strewn gives a number that hangs on its place alone.
func strewn(i uint64) int64 {
	x := (i + 1) * 0x9e3779b97f4a7c15
	x ^= x >> 29
	x *= 0xbf58476d1ce4e5b9
	return int64(x ^ x>>32)
}

// scalars gives numbers about 0, about each power of two and about the bounds, of either sign, and some of each length.
func scalars() []int64 {
	l := []int64{0, least64, least64 + 1, most64 - 1, most64}
	for k := range 63 {
		p := int64(1) << k
		l = append(l, p-1, p, p+1, -p-1, -p, 1-p)
	}
	for i := range uint64(4000) {
		l = append(l, strewn(i)>>(i%64))
	}
	return l
}

// angles gives numbers about the eighths of turns, near 0 and far from it, and those of scalars.
func angles() []int64 {
	l := scalars()
	for _, turns := range []int64{0, 1, -1, 2, -2, 1000, -1000, top/turn - 1, 1 - top/turn, most64/turn - 1, least64/turn + 1} {
		for e := int64(-4); e <= 4; e++ {
			for off := int64(-70); off <= 70; off++ {
				l = append(l, turns*turn+e*eighth+off)
			}
		}
	}
	return l
}

func sat(a, bound int64) int64 { return min(max(a, -bound), bound) }

// rounded gives n / d: of two equally near integers the one farther from 0.
func rounded(n, d *big.Int) int64 {
	q := new(big.Int).Lsh(new(big.Int).Abs(n), 1)
	q.Add(q, new(big.Int).Abs(d))
	q.Quo(q, new(big.Int).Lsh(new(big.Int).Abs(d), 1))
	return q.Int64() * int64(n.Sign()*d.Sign())
}

func mul(a, b int64) int64 {
	return rounded(new(big.Int).Mul(big.NewInt(a), big.NewInt(b)), big.NewInt(one))
}

func div(a, b int64) int64 {
	return rounded(new(big.Int).Lsh(big.NewInt(a), 30), big.NewInt(b))
}

// sqrt gives the integer that is nearest to the root of a times 2^30: that of 4 times it has one bit more, by which it is rounded.
func sqrt(a int64) int64 {
	r := new(big.Int).Lsh(big.NewInt(a), 32)
	r.Sqrt(r)
	return r.Rsh(r.Add(r, big.NewInt(1)), 1).Int64()
}

// factorial gives 2^30 / n!, rounded.
func factorial(n int64) int64 {
	return rounded(big.NewInt(one), new(big.Int).MulRange(1, n))
}

// sum gives the alternating series of the given numbers, the highest power of z first, the last one's sign being plus.
func sum(z int64, l []int64) int64 {
	s := int64(0)
	for i, k := range l {
		if (len(l)-i)%2 == 0 {
			k = -k
		}
		s = k + mul(z, s)
	}
	return s
}

func wrapByModel(a int64) int64 {
	// The least k with a - k T at most P is what (a - P) / T is rounded up to: minus what (P - a) / T is rounded down to.
	k := new(big.Int).Sub(big.NewInt(half), big.NewInt(a))
	k.Div(k, big.NewInt(turn))
	return k.Add(k.Mul(k, big.NewInt(turn)), big.NewInt(a)).Int64()
}

func sinByModel(a int64) int64 {
	w := wrapByModel(sat(a, top))
	if w > quarter {
		w = half - w
	} else if w < -quarter {
		w = -half - w
	}
	if w >= -eighth && w <= eighth {
		var l []int64
		for n := int64(11); n >= 1; n -= 2 {
			l = append(l, factorial(n))
		}
		return sat(mul(w, sum(mul(w, w), l)), one)
	}
	var l []int64
	for n := int64(12); n >= 0; n -= 2 {
		l = append(l, factorial(n))
	}
	if w < 0 {
		return sat(-sum(mul(quarter+w, quarter+w), l), one)
	}
	return sat(sum(mul(quarter-w, quarter-w), l), one)
}

func atan2ByModel(y, x int64) int64 {
	y, x = sat(y, top), sat(x, top)
	if x == 0 && y == 0 {
		return 0
	}
	t, base := div(min(max(y, -y), max(x, -x)), max(y, -y, x, -x)), int64(0)
	if t > 444758426 {
		t, base = div(t-one, t+one), eighth
	}
	var l []int64
	for n := int64(23); n >= 1; n -= 2 {
		l = append(l, rounded(big.NewInt(one), big.NewInt(n)))
	}
	r := base + mul(t, sum(mul(t, t), l))
	if max(y, -y) > max(x, -x) {
		r = quarter - r
	}
	if x < 0 {
		r = half - r
	}
	if y < 0 {
		r = -r
	}
	return r
}

func TestWrapByModel(t *testing.T) {
	for _, a := range angles() {
		got, want := trig.Wrap(a), wrapByModel(a)
		if got != want || got <= -half || got > half {
			t.Fatalf("P4.1: Wrap(%d) is %d, not %d", a, got, want)
		}
	}
}

func TestSinesByModel(t *testing.T) {
	for _, a := range angles() {
		check(t, "P4.2: Sin", row{[]int64{a}, sinByModel(a), a > top || a < -top}, sinOf)
		check(t, "P4.2: Cos", row{[]int64{a}, sinByModel(quarter + wrapByModel(a)), false}, cosOf)
	}
}

// Angles all over the turn, where each constant of both series counts.
func TestSinesAllRound(t *testing.T) {
	for i := int64(-4000); i <= 4000; i++ {
		a := i * (half / 4000)
		check(t, "P4.2: Sin", row{[]int64{a}, sinByModel(a), false}, sinOf)
	}
}

func checkAtan2(t *testing.T, y, x int64) {
	t.Helper()
	hit := sat(y, top) != y || sat(x, top) != x
	check(t, "P4.3: Atan2", row{[]int64{y, x}, atan2ByModel(y, x), hit}, atan2Of)
}

func TestAtan2ByModel(t *testing.T) {
	l := scalars()
	for i, y := range l {
		for k := range 6 {
			checkAtan2(t, y, l[(i*7+k*k*611)%len(l)])
		}
		checkAtan2(t, y, y)
		checkAtan2(t, y, -y)
		checkAtan2(t, y, 0)
		checkAtan2(t, 0, y)
		checkAtan2(t, y, one)
		checkAtan2(t, -one, y)
	}
	for i := range int64(4000) {
		checkAtan2(t, i*(one/4000), one)
		checkAtan2(t, i%7-3, i/7%60-30)
	}
	// About the tangent of a sixteenth of a turn, for points near and far.
	for k := range 30 {
		for off := int64(-20); off <= 20; off++ {
			checkAtan2(t, 444758426<<k+off, one<<k)
			checkAtan2(t, -one<<k, 444758427<<k+off)
		}
	}
}

// Tangents at which one more or less in a constant of the series shows: hardly any do, as its first terms are small.
func TestAtan2Constants(t *testing.T) {
	for _, v := range []int64{439776843, 444270637, 435145795, 444439347, 443242724, 444491399, 444678869,
		444748668, 444738131, 444755058, 444751670, 444758144, 444757052} {
		checkAtan2(t, v, one)
		checkAtan2(t, one, -v)
	}
}

func TestAsinByModel(t *testing.T) {
	l := scalars()
	for i := int64(-4000); i <= 4000; i++ {
		l = append(l, i*(one/4000), one-i, -one+i)
	}
	for _, a := range l {
		s := sat(a, one)
		check(t, "P4.4: Asin", row{[]int64{a}, atan2ByModel(s, sqrt(one-mul(s, s))), s != a}, asinOf)
	}
}
