package rot_test

import (
	"math/big"
	"testing"

	"astrolabe/fx"
	"astrolabe/quat"
	"astrolabe/rot"
	"astrolabe/trig"
	"astrolabe/vec"
)

// The tests of this file hold each call against big numbers, at the edges and at numbers strewn between them.

// model reckons as chapter 7 says; hit: something was clamped.
type model struct{ hit bool }

func (m *model) sat(v *big.Int) *big.Int {
	if v.CmpAbs(big.NewInt(top)) <= 0 {
		return v
	}
	m.hit = true
	return big.NewInt(int64(v.Sign()) * top)
}

func (m *model) number(a int64) *big.Int { return m.sat(big.NewInt(a)) }

func (m *model) vector(v vec.V) []*big.Int {
	return []*big.Int{m.number(v[0]), m.number(v[1]), m.number(v[2])}
}

// divide gives a quotient, rounded and clamped: that of twice the number has one bit more, by which it is rounded.
func (m *model) divide(v, d *big.Int) int64 {
	q := new(big.Int).Lsh(new(big.Int).Abs(v), 1)
	q.Quo(q, d)
	q.Rsh(q.Add(q, big.NewInt(1)), 1)
	return m.sat(q.Mul(q, big.NewInt(int64(v.Sign())))).Int64()
}

func (m *model) mul(a, b int64) int64 {
	return m.divide(new(big.Int).Mul(big.NewInt(a), big.NewInt(b)), big.NewInt(one))
}

func (m *model) div(a, b int64) int64 {
	return m.divide(new(big.Int).Lsh(big.NewInt(a), 30), big.NewInt(b))
}

// length gives the integer nearest to the length: that of 4 times the squares has one bit more, by which it is rounded.
func (m *model) length(l []*big.Int) int64 {
	sum := new(big.Int)
	for _, x := range l {
		sum.Add(sum, new(big.Int).Mul(x, x))
	}
	n := sum.Sqrt(sum.Lsh(sum, 2))
	return m.sat(n.Rsh(n.Add(n, big.NewInt(1)), 1)).Int64()
}

// product is Hamilton's, of whole numbers.
func product(a, b [4]*big.Int) [4]*big.Int {
	places := [4][4]int{{0, 1, 2, 3}, {1, 0, 3, 2}, {2, 3, 0, 1}, {3, 2, 1, 0}}
	signs := [4][4]int64{{1, 1, 1, 1}, {1, -1, 1, -1}, {1, -1, -1, 1}, {1, 1, -1, -1}}
	sums := [4]*big.Int{new(big.Int), new(big.Int), new(big.Int), new(big.Int)}
	for i := range a {
		for j := range b {
			term := new(big.Int).Mul(a[i], b[j])
			sum := sums[places[i][j]]
			sum.Add(sum, term.Mul(term, big.NewInt(signs[i][j])))
		}
	}
	return sums
}

// of turns each axis of the body by the quaternion, which gives the matrix' columns.
func (m *model) of(q quat.Quat) rot.M {
	var a, conj [4]*big.Int
	for i, x := range q {
		a[i] = m.number(x)
		conj[i] = new(big.Int).Neg(a[i])
	}
	conj[0] = a[0]
	var all rot.M
	for column := range 3 {
		axis := [4]*big.Int{new(big.Int), new(big.Int), new(big.Int), new(big.Int)}
		axis[1+column].SetInt64(1)
		image := product(product(a, axis), conj)
		for r, x := range image[1:] {
			all[3*r+column] = m.divide(x, big.NewInt(one))
		}
	}
	return all
}

// moved turns by the matrix, or back by its transposed one.
func (m *model) moved(a moved, back bool) vec.V {
	var all [9]*big.Int
	for i, x := range a.m {
		all[i] = m.number(x)
	}
	v := m.vector(a.v)
	var turned vec.V
	for i := range turned {
		sum := new(big.Int)
		for j, x := range v {
			at := 3*i + j
			if back {
				at = 3*j + i
			}
			sum.Add(sum, new(big.Int).Mul(all[at], x))
		}
		turned[i] = m.divide(sum, big.NewInt(one))
	}
	return turned
}

// unit and the angles below are those of the packages that rot calls: what they are given here is far from what they clamp.
func unit(l ...int64) quat.Quat { return quat.Unit(&fx.Acc{}, quat.Quat(l)) }

func sin(a int64) int64 { return trig.Sin(&fx.Acc{}, a) }
func cos(a int64) int64 { return trig.Cos(&fx.Acc{}, a) }

func (m *model) exp(v vec.V) quat.Quat {
	l := m.vector(v)
	n := m.length(l)
	if n == 0 {
		return quat.Quat{one}
	}
	h := m.mul(n, one/2)
	s := m.div(sin(h), n)
	return unit(cos(h), m.mul(l[0].Int64(), s), m.mul(l[1].Int64(), s), m.mul(l[2].Int64(), s))
}

func (m *model) yaw(q quat.Quat) int64 {
	all := m.of(q)
	return trig.Atan2(&fx.Acc{}, all[3], all[0])
}

func (m *model) fromYaw(a int64) quat.Quat {
	h := m.mul(trig.Wrap(a), one/2)
	return unit(cos(h), 0, 0, sin(h))
}

func (m *model) tilt(f vec.V) quat.Quat {
	l := m.vector(f)
	n := m.length(l)
	if n == 0 {
		return quat.Quat{one}
	}
	w := one - m.div(l[2].Int64(), n)
	if w <= 16 {
		return quat.Quat{0, one, 0, 0}
	}
	return unit(w, -m.div(l[1].Int64(), n), m.div(l[0].Int64(), n), 0)
}

// strewn gives a number that hangs on its place alone.
func strewn(i uint64) int64 {
	x := (i + 1) * 0x9e3779b97f4a7c15
	x ^= x >> 29
	x *= 0xbf58476d1ce4e5b9
	return int64(x ^ x>>32)
}

// sized gives a strewn number of a strewn length.
func sized(i uint64) int64 {
	a := strewn(i)
	return a >> (uint64(strewn(uint64(a))) % 64)
}

// edges gives numbers about 0, about some powers of two, about parts of a turn and about the bounds, of either sign.
func edges() []int64 {
	l := []int64{0, 1, -1, 2, -2, 3, -3, least64, least64 + 1, most64 - 1, most64}
	for _, p := range []int64{1 << 14, 1 << 15, 1 << 29, one, quarter, half, turn, 1 << 44, 1 << 45, 1 << 59, top, 1 << 61} {
		l = append(l, p-1, p, p+1, -p-1, -p, 1-p)
	}
	return l
}

// compare holds a call against the model's, each from a flag that is not set.
func compare[G any, A comparable](t *testing.T, name string, given G, call func(c *fx.Acc, given G) A, by func(m *model) A) {
	t.Helper()
	c, m := &fx.Acc{}, &model{}
	got, want := call(c, given), by(m)
	if got != want || c.Hit != m.hit {
		t.Fatalf("%s of %v: %v, flag %v, not %v, flag %v", name, given, got, c.Hit, want, m.hit)
	}
}

func compareTurns(t *testing.T, q quat.Quat) {
	t.Helper()
	compare(t, "P7.1: Of", q, rot.Of, func(m *model) rot.M { return m.of(q) })
	compare(t, "P7.2: Yaw", q, rot.Yaw, func(m *model) int64 { return m.yaw(q) })
}

func compareMoved(t *testing.T, a moved) {
	t.Helper()
	compare(t, "P7.1: Apply", a, applyOf, func(m *model) vec.V { return m.moved(a, false) })
	compare(t, "P7.1: Back", a, backOf, func(m *model) vec.V { return m.moved(a, true) })
}

func compareVectors(t *testing.T, v vec.V) {
	t.Helper()
	compare(t, "P7.2: Exp", v, rot.Exp, func(m *model) quat.Quat { return m.exp(v) })
	compare(t, "P7.3: Tilt", v, rot.Tilt, func(m *model) quat.Quat { return m.tilt(v) })
}

// Two numbers of the edges in each two places, beside those that are strewn.
func TestEdgesByModel(t *testing.T) {
	l := edges()
	for n, x := range l {
		for o, y := range l {
			at := uint64(n*len(l)+o) * 16
			// Small enough beside the edges not to hide what they do.
			small := func(k int) int64 { return strewn(at+uint64(k)) >> 40 }
			q, v := quat.Quat{small(0), small(1), small(2), small(3)}, vec.V{small(4), small(5), small(6)}
			q[n%4], q[(n+1+o%3)%4] = x, y
			compareTurns(t, q)
			v[o%3], v[(o+1+n%2)%3] = x, y
			compareVectors(t, v)
			compareVectors(t, vec.V{x, y, 0})
			compareVectors(t, vec.V{0, x, y})
			a := moved{v: vec.V{small(4), small(5), small(6)}}
			for i := range a.m {
				a.m[i] = small(7 + i)
			}
			a.m[(n+o)%9], a.v[n%3] = x, y
			compareMoved(t, a)
		}
		compare(t, "P7.2: FromYaw", x, rot.FromYaw, func(m *model) quat.Quat { return m.fromYaw(x) })
	}
}

// All numbers are strewn, of each length.
func TestStrewnByModel(t *testing.T) {
	for i := range uint64(20000) {
		at := i * 32
		compareTurns(t, quat.Quat{sized(at), sized(at + 1), sized(at + 2), sized(at + 3)})
		compareTurns(t, quat.Quat{strewn(at) >> (i % 64), strewn(at+1) >> (i % 64), strewn(at+2) >> (i % 64), strewn(at+3) >> (i % 64)})
		compareVectors(t, vec.V{sized(at + 4), sized(at + 5), sized(at + 6)})
		compareVectors(t, vec.V{strewn(at+4) >> (i % 64), strewn(at+5) >> (i % 64), strewn(at+6) >> (i % 64)})
		var sparse, alike moved
		for k := range sparse.m {
			sparse.m[k], alike.m[k] = sized(at+8+uint64(k)), strewn(at+8+uint64(k))>>(i%64)
		}
		for k := range sparse.v {
			sparse.v[k], alike.v[k] = sized(at+20+uint64(k)), strewn(at+20+uint64(k))>>(i/64%64)
		}
		compareMoved(t, sparse)
		compareMoved(t, alike)
		a := sized(at + 24)
		compare(t, "P7.2: FromYaw", a, rot.FromYaw, func(m *model) quat.Quat { return m.fromYaw(a) })
	}
}

// Numbers whose products end about a half, where it shows whether their sum is rounded once.
func TestHalvesByModel(t *testing.T) {
	for i := range uint64(20000) {
		var q quat.Quat
		for k := range q {
			q[k] = strewn(i*32+uint64(k))>>61<<13 + strewn(i*32+uint64(k)+4)>>63
		}
		compareTurns(t, q)
		var a moved
		for k := range a.m {
			at := i*32 + 8 + uint64(k)
			a.m[k] = strewn(at)>>61*(one/8) + strewn(at+9)>>63
		}
		for k := range a.v {
			a.v[k] = strewn(i*32+28+uint64(k)) >> 61
		}
		compareMoved(t, a)
	}
}

// Turns of small vectors, and of those that an inertial sample has.
func TestSmallExpsByModel(t *testing.T) {
	for x := int64(-6); x <= 6; x++ {
		for y := int64(-6); y <= 6; y++ {
			for z := int64(-6); z <= 6; z++ {
				compareVectors(t, vec.V{x, y, z})
				compareVectors(t, vec.V{1000003 * x, -2000003 * y, 3000017 * z})
				compareVectors(t, vec.V{quarter/2*x + y, quarter / 2 * y, quarter/2*z + x})
			}
		}
	}
}

// Vectors about the w up to which Tilt does not reckon.
func TestTiltsAboutTheBack(t *testing.T) {
	for i := range int64(3000) {
		x, y := 170000+i*10, (i%5-2)*60000
		compareVectors(t, vec.V{x, y, one})
		compareVectors(t, vec.V{-y, x, one - i%3})
		compareVectors(t, vec.V{-x, y, one})
	}
}
