package state_test

import (
	"math/big"
	"testing"

	"astrolabe/api"
	"astrolabe/fx"
	"astrolabe/quat"
	"astrolabe/state"
)

// The tests of this file hold Good, Keep and Add against big numbers, at estimates that are strewn.

// model reckons as chapter 15 says; hit: something was clamped.
type model struct{ hit bool }

// clamp keeps a number from -most to most.
func (m *model) clamp(x *big.Int, most int64) *big.Int {
	if x.CmpAbs(big.NewInt(most)) <= 0 {
		return x
	}
	m.hit = true
	return big.NewInt(int64(x.Sign()) * most)
}

// add adds two numbers within Max.
func (m *model) add(a, b int64) int64 {
	sum := new(big.Int).Add(m.clamp(big.NewInt(a), top), m.clamp(big.NewInt(b), top))
	return m.clamp(sum, top).Int64()
}

// unit makes the quaternion a result of Unit, which has tests of its own.
func (m *model) unit(s api.State) api.State {
	c := &fx.Acc{}
	q := quat.Unit(c, quat.Quat(s[:4]))
	m.hit = m.hit || c.Hit
	return turned(s, q)
}

// bound clamps all numbers but the quaternion's.
func (m *model) bound(s api.State) api.State {
	for i := 4; i < n; i++ {
		s[i] = m.clamp(big.NewInt(s[i]), bounds[i]).Int64()
	}
	return s
}

// missed tells whether the sum of the quaternion's squares differs from 2^60 by more than 2^32.
func missed(s api.State) bool {
	sum := big.NewInt(-1 << 60)
	for _, x := range s[:4] {
		sum.Add(sum, new(big.Int).Mul(big.NewInt(x), big.NewInt(x)))
	}
	return sum.CmpAbs(big.NewInt(1<<32)) > 0
}

func (m *model) keep(s api.State) api.State {
	if missed(s) {
		s = m.unit(s)
	}
	return m.bound(s)
}

func (m *model) sum(s api.State, d [][n]int64) api.State {
	if len(d) == 0 {
		return m.keep(s)
	}
	for _, change := range d {
		for i := range s {
			s[i] = m.add(s[i], change[i])
		}
		s = m.bound(m.unit(s))
	}
	return s
}

// isGood tells whether all numbers are within their bounds: the quaternion's are if its squares are.
func isGood(s api.State) bool {
	for i, x := range s {
		if big.NewInt(x).CmpAbs(big.NewInt(bounds[i])) > 0 {
			return false
		}
	}
	return !missed(s)
}

// source gives strewn numbers, one after another.
type source struct{ next uint64 }

func (s *source) any() uint64 {
	s.next++
	x := s.next * 0x9e3779b97f4a7c15
	x ^= x >> 29
	x *= 0xbf58476d1ce4e5b9
	return x ^ x>>32
}

// one gives a number from 0 to one less than count.
func (s *source) one(count int64) int64 { return int64(s.any() >> 32 % uint64(count)) }

// sized gives a number of any size.
func (s *source) sized() int64 { return int64(s.any()) >> s.one(64) }

// about gives a number about a bound, or about 0, of either sign.
func (s *source) about(most int64) int64 {
	x := s.one(7) - 3
	switch s.one(4) {
	case 0:
		return x
	case 1:
		return x + most
	case 2:
		return x - most
	}
	return int64(s.any()) % most
}

// quaternion gives one: most are not far from length one.
func (s *source) quaternion() quat.Quat {
	q := quat.Quat{s.sized(), s.sized(), s.sized(), s.sized()}
	if s.one(3) == 0 {
		return q
	}
	q = quat.Unit(&fx.Acc{}, q)
	for i := range q {
		q[i] += s.one(7) - 3
	}
	return q
}

// state gives an estimate of any numbers, or of numbers about their bounds, or of such as are small beside them.
func (s *source) state() api.State {
	var e api.State
	kind := s.one(3)
	for i := range e {
		switch kind {
		case 0:
			e[i] = s.sized()
		case 1:
			e[i] = s.about(bounds[i])
		default:
			e[i] = int64(s.any()) % bounds[i] >> 1
		}
	}
	return turned(e, s.quaternion())
}

// change gives a change of the same kinds.
func (s *source) change() [n]int64 {
	d := [n]int64(s.state())
	if s.one(2) == 0 {
		for i := range d[:4] {
			d[i] = s.sized() >> 34
		}
	}
	return d
}

// compare holds a call against the model's, each from a flag that is not set, and what it answers against Good.
func compare(t *testing.T, name string, given any, call func(c *fx.Acc) api.State, by func(m *model) api.State) (api.State, bool) {
	t.Helper()
	c, m := &fx.Acc{}, &model{}
	got, want := call(c), by(m)
	if got != want || c.Hit != m.hit {
		t.Fatalf("P15.1: %s of %v: %v, flag %v, not %v, flag %v", name, given, got, c.Hit, want, m.hit)
	}
	if !isGood(got) || !state.Good(got) {
		t.Fatalf("P15.2: %s of %v: %v is not good", name, given, got)
	}
	if c = (&fx.Acc{}); state.Keep(c, got) != got || c.Hit {
		t.Fatalf("P15.2: Keep of the good %v changes it, or sets the flag: %v", got, c.Hit)
	}
	return got, m.hit
}

// tally counts how often something was so, and how often not.
type tally [2]int

func (y *tally) count(so bool) {
	if so {
		y[0]++
	} else {
		y[1]++
	}
}

// enough holds a tally against what must have happened at least.
func (y *tally) enough(t *testing.T, what string, least int) {
	t.Helper()
	if min(y[0], y[1]) < least {
		t.Errorf("%s: %d times, and %d times not", what, y[0], y[1])
	}
}

func TestKeepByModel(t *testing.T) {
	s := &source{}
	var good, clamped, far tally
	for range 60000 {
		e := s.state()
		if state.Good(e) != isGood(e) {
			t.Fatalf("P15.1: Good(%v): %v", e, !isGood(e))
		}
		kept, hit := compare(t, "Keep", e, func(c *fx.Acc) api.State { return state.Keep(c, e) },
			func(m *model) api.State { return m.keep(e) })
		if isGood(e) && (kept != e || hit) {
			t.Fatalf("P15.2: Keep of the good %v: %v", e, kept)
		}
		good.count(isGood(e))
		clamped.count(hit)
		far.count(missed(e))
	}
	good.enough(t, "good", 5000)
	clamped.enough(t, "clamped", 5000)
	far.enough(t, "a quaternion of another length", 5000)
}

func TestAddByModel(t *testing.T) {
	s := &source{}
	var clamped tally
	for range 30000 {
		e := s.state()
		var d [][n]int64
		for range s.one(5) {
			d = append(d, s.change())
		}
		got, hit := compare(t, "Add", []any{e, d}, func(c *fx.Acc) api.State { return state.Add(c, e, d...) },
			func(m *model) api.State { return m.sum(e, d) })
		clamped.count(hit)
		checkSteps(t, e, d, got)
	}
	clamped.enough(t, "clamped", 2000)
}

// checkSteps holds an Add of several changes against as many of one each.
func checkSteps(t *testing.T, e api.State, d [][n]int64, want api.State) {
	t.Helper()
	c := &fx.Acc{}
	s := e
	for _, change := range d {
		s = state.Add(c, s, change)
	}
	if len(d) > 0 && s != want {
		t.Fatalf("P15.1: Add of %v to %v, one after another: %v, not %v", d, e, s, want)
	}
}

// root is the greatest number whose square is at most x, which is not below 0.
func root(x int64) int64 { return new(big.Int).Sqrt(big.NewInt(x)).Int64() }

// missing gives a quaternion whose squares differ from 2^60 by about as much as is told.
func (s *source) missing(by int64) quat.Quat {
	first := one + by>>31 - s.one(3)
	left := 1<<60 + by - first*first
	q := quat.Quat{first}
	for i := 1; i < 4; i++ {
		q[i] = root(max(0, left))
		left -= q[i] * q[i]
	}
	q[3] += s.one(3) - 1
	for i := range q {
		j := s.one(4)
		q[i], q[j] = q[j], q[i]
		if s.one(2) == 0 {
			q[i] = -q[i]
		}
	}
	return q
}

// Quaternions on both sides of the greatest difference.
func TestAboutTheGreatestMiss(t *testing.T) {
	s := &source{}
	for _, sign := range []int64{1, -1} {
		var far tally
		for range 20000 {
			e := turned(some(), s.missing(sign<<32+s.one(2000)-1000))
			if state.Good(e) == missed(e) {
				t.Fatalf("P15.1: Good(%v): %v", e, missed(e))
			}
			compare(t, "Keep", e, func(c *fx.Acc) api.State { return state.Keep(c, e) },
				func(m *model) api.State { return m.keep(e) })
			far.count(missed(e))
		}
		far.enough(t, "a quaternion too far from length one", 2000)
	}
}
