package strap_test

import (
	"math/big"
	"testing"

	"astrolabe/api"
	"astrolabe/fx"
	"astrolabe/quat"
	"astrolabe/rot"
	"astrolabe/state"
	"astrolabe/strap"
	"astrolabe/vec"
)

// The tests of this file hold Split, Step and Seconds against big numbers, at estimates and samples that are strewn.

// model reckons as chapter 16 says; hit: something was clamped.
type model struct{ hit bool }

func (m *model) sat(x *big.Int) int64 {
	if x.CmpAbs(big.NewInt(top)) <= 0 {
		return x.Int64()
	}
	m.hit = true
	return int64(x.Sign()) * top
}

func (m *model) number(a int64) *big.Int { return big.NewInt(m.sat(big.NewInt(a))) }

// divide gives a quotient, rounded and clamped: that of twice the number has one bit more, by which it is rounded.
func (m *model) divide(x *big.Int, d int64) int64 {
	q := new(big.Int).Lsh(new(big.Int).Abs(x), 1)
	q.Quo(q, big.NewInt(d))
	q.Rsh(q.Add(q, big.NewInt(1)), 1)
	return m.sat(q.Mul(q, big.NewInt(int64(x.Sign()))))
}

// dot gives a sum of products; each number is one of the format Q.
func (m *model) dot(a, b []int64) int64 {
	sum := new(big.Int)
	for k := range a {
		sum.Add(sum, new(big.Int).Mul(m.number(a[k]), m.number(b[k])))
	}
	return m.divide(sum, one)
}

func (m *model) mul(a, b int64) int64 { return m.dot([]int64{a}, []int64{b}) }

func (m *model) add(l ...int64) int64 {
	sum := new(big.Int)
	for _, a := range l {
		sum.Add(sum, m.number(a))
	}
	return m.sat(sum)
}

// seconds is a call of its own.
func (m *model) seconds(us int64) int64 {
	return m.divide(new(big.Int).Mul(m.number(us), big.NewInt(one)), 1000000)
}

// taken is what another layer's call answers, whose tests are its own.
func taken[A any](m *model, call func(c *fx.Acc) A) A {
	c := &fx.Acc{}
	a := call(c)
	m.hit = m.hit || c.Hit
	return a
}

func (m *model) keep(s api.State) api.State {
	return taken(m, func(c *fx.Acc) api.State { return state.Keep(c, s) })
}

// left is what is left of a sum after the bias.
func (m *model) left(sum [3]int64, bias []int64, dt int64) vec.V {
	var v vec.V
	for k := range v {
		v[k] = m.add(m.sat(big.NewInt(sum[k])), -m.mul(bias[k], dt))
	}
	return v
}

func (m *model) split(s api.State, i api.Imu) strap.Parts {
	s = m.keep(s)
	m.number(i.T)
	p := strap.Parts{Dt: m.seconds(i.Dt)}
	p.Angle = m.left(i.Angle, s[api.Gyro:api.Acc], p.Dt)
	p.Dv = m.left(i.Dv, s[api.Acc:api.Mag], p.Dt)
	p.Turn = taken(m, func(c *fx.Acc) quat.Quat { return rot.Exp(c, p.Angle) })
	p.R = taken(m, func(c *fx.Acc) rot.M { return rot.Of(c, quat.Quat(s[:4])) })
	return p
}

// product is Hamilton's.
func (m *model) product(a, b quat.Quat) quat.Quat {
	return quat.Quat{
		m.dot(a[:], []int64{b[0], -b[1], -b[2], -b[3]}),
		m.dot(a[:], []int64{b[1], b[0], b[3], -b[2]}),
		m.dot(a[:], []int64{b[2], -b[3], b[0], b[1]}),
		m.dot(a[:], []int64{b[3], b[2], -b[1], b[0]}),
	}
}

func (m *model) step(s api.State, i api.Imu) api.State {
	p, s := m.split(s, i), m.keep(s)
	q := m.product(quat.Quat(s[:4]), p.Turn)
	q = taken(m, func(c *fx.Acc) quat.Quat { return quat.Unit(c, q) })
	half := m.mul(p.Dt, one/2)
	for k := range 3 {
		v, fallen := s[api.Vel+k], int64(0)
		if k == 2 {
			fallen = m.mul(g, p.Dt)
		}
		next := m.add(v, m.dot(p.R[3*k:3*k+3], p.Dv[:]), fallen)
		s[api.Vel+k] = next
		s[api.Pos+k] = m.add(s[api.Pos+k], m.mul(m.add(v, next), half))
	}
	return m.keep(with(s, 0, q[:]...))
}

// source gives strewn numbers, one after another.
type source struct{ next uint64 }

func (s *source) any() uint64 {
	s.next++
	x := s.next * 0x9e3779b97f4a7c15
	x ^= x >> 29
	x *= 0xbf58476d1ce4e5b9
	return x ^ x>>32
}

// one gives a number from 0 to one less than count.
func (s *source) one(count int64) int64 { return int64(s.any() >> 1 % uint64(count)) }

// sized gives a number of any size.
func (s *source) sized() int64 { return int64(s.any()) >> s.one(64) }

// about gives a number about a bound, or about 0, of either sign.
func (s *source) about(most int64) int64 {
	x := s.one(7) - 3
	switch s.one(4) {
	case 0:
		return x
	case 1:
		return x + most
	case 2:
		return x - most
	}
	return int64(s.any()) % most
}

// within gives a number of any size from -most to most.
func (s *source) within(most int64) int64 { return s.sized() % (most + 1) }

// attitude gives a quaternion of length one, or hardly another.
func (s *source) attitude() quat.Quat {
	q := quat.Unit(&fx.Acc{}, quat.Quat{int64(s.any()) >> 6, int64(s.any()) >> 6, int64(s.any()) >> 6, int64(s.any()) >> 6})
	q[s.one(4)] += s.one(5) - 2
	return q
}

// estimate gives one of any numbers, or of numbers about their bounds, or a good one.
func (s *source) estimate() api.State {
	var e api.State
	kind, bounds := s.one(4), state.Bounds()
	for i := range e {
		switch kind {
		case 0:
			e[i] = s.sized()
		case 1:
			e[i] = s.about(bounds[i])
		default:
			e[i] = s.within(bounds[i])
		}
	}
	if kind == 0 {
		return e
	}
	q := s.attitude()
	return with(e, 0, q[:]...)
}

// imu gives a sample of any numbers, or of numbers about Max, or one that may be (chapter 14).
func (s *source) imu() api.Imu {
	i := api.Imu{T: s.one(1 << 50), Dt: 1 + s.one(100000)}
	kind := s.one(4)
	number := func() int64 { return s.within(1 << 35) }
	switch kind {
	case 0:
		number = s.sized
	case 1:
		number = func() int64 { return s.about(top) }
	}
	for k := range 3 {
		i.Angle[k], i.Dv[k] = number(), number()
	}
	if kind < 2 {
		i.T, i.Dt = number(), s.sized()
	}
	return i
}

// compare holds a call against the model's, each from a flag that is not set, and tells whether it sets it.
func compare[A comparable](t *testing.T, name string, given any, call func(c *fx.Acc) A, by func(m *model) A) (A, bool) {
	t.Helper()
	c, m := &fx.Acc{}, &model{}
	got, want := call(c), by(m)
	if got != want || c.Hit != m.hit {
		t.Fatalf("%s of %v: %v, flag %v, not %v, flag %v", name, given, got, c.Hit, want, m.hit)
	}
	return got, m.hit
}

// compareBoth holds Split and Step, and tells whether Step sets the flag.
func compareBoth(t *testing.T, e api.State, i api.Imu) bool {
	t.Helper()
	given := []any{e, i}
	compare(t, "P16.1: Split", given, func(c *fx.Acc) strap.Parts { return strap.Split(c, e, i) },
		func(m *model) strap.Parts { return m.split(e, i) })
	got, hit := compare(t, "P16.2: Step", given, func(c *fx.Acc) api.State { return strap.Step(c, e, i) },
		func(m *model) api.State { return m.step(e, i) })
	if !state.Good(got) {
		t.Fatalf("P16.3: Step of %v: %v is not good", given, got)
	}
	return hit
}

func TestByModel(t *testing.T) {
	s := &source{}
	hits, count := 0, 40000
	for range count {
		if compareBoth(t, s.estimate(), s.imu()) {
			hits++
		}
	}
	if min(hits, count-hits) < 5000 {
		t.Errorf("not all may happen: %d of %d set the flag", hits, count)
	}
}

// Each number of the estimate and of the sample at each of its edges, beside good ones.
func TestEdgesByModel(t *testing.T) {
	s := &source{}
	bounds := state.Bounds()
	for range 20 {
		for k := range api.N + 8 {
			for _, x := range []int64{0, 1, top, top + 1, most64} {
				if k < api.N && x == 1 {
					x = bounds[k]
				}
				for _, x := range []int64{x - 1, x, x + 1, 1 - x, -x, ^x} {
					e, i := s.good(), s.imu()
					if k < api.N {
						e[k] = x
					} else {
						set(&i, k-api.N, x)
					}
					compareBoth(t, e, i)
				}
			}
		}
	}
}

// good gives a good estimate that is far from its bounds.
func (s *source) good() api.State {
	var e api.State
	for i, b := range state.Bounds() {
		e[i] = s.within(b / 2)
	}
	q := s.attitude()
	return with(e, 0, q[:]...)
}

// set changes a number of a sample.
func set(i *api.Imu, k int, x int64) {
	switch {
	case k < 3:
		i.Angle[k] = x
	case k < 6:
		i.Dv[k-3] = x
	case k == 6:
		i.Dt = x
	default:
		i.T = x
	}
}

// A walk of many samples, each of which is small, sets no flag.
func TestWalksByModel(t *testing.T) {
	s := &source{}
	for range 200 {
		e := s.good()
		for i := range e[api.Vel:api.Gyro] {
			e[api.Vel+i] >>= 8
		}
		for range 50 {
			i := s.imu()
			i.T, i.Dt = s.one(1<<50), 1+s.one(20000)
			for k := range 3 {
				i.Angle[k], i.Dv[k] = s.within(one/8), s.within(one)
			}
			c := &fx.Acc{}
			if compareBoth(t, e, i) {
				t.Fatalf("P16.2: Step of %v and %v sets the flag", e, i)
			}
			e = strap.Step(c, e, i)
		}
	}
}

func TestSecondsByModel(t *testing.T) {
	s := &source{}
	hits, count := 0, 40000
	for n := range int64(count) {
		us := s.sized()
		if n%2 == 0 {
			us = s.about(one * 1000000)
		}
		_, hit := compare(t, "P16.1: Seconds", us, func(c *fx.Acc) int64 { return strap.Seconds(c, us) },
			func(m *model) int64 { return m.seconds(us) })
		if hit {
			hits++
		}
	}
	if min(hits, count-hits) < 5000 {
		t.Errorf("not all may happen: %d of %d set the flag", hits, count)
	}
}
